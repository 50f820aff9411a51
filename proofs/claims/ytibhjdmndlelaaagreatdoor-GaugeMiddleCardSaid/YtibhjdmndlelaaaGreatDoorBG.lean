/-
  GaugeMiddle where a record is not short. Conditions: written at each.
  GaugeMiddle where a record is not taken. Conditions: written at each.
  GaugeMiddle for every input. Conditions: written at each.
  GaugeMiddle (P1.4, P1.6): a vote lies between the least and the greatest of the gauges that are recorded, in whichever order these stand; three equal gauges vote as each of them; by the greatest tolerance none deviates. Conditions: the row's own (the listed library tables as the program's text lays them, tied by the card).
-/
import Derived.Test.YtibhjdmndlelaaaGreatDoorBC
import Derived.Test.YtibhjdmndlelaaaGreatDoorB7
import Derived.Test.YtibhjdmndlelaaaGreatDoorRows
import Derived.Test.YtibhjdmndlelaaaGreatDoorCards
import Derived.Test.YtibhjdmndlelaaaGreatDoorTie
import Derived.Test.YtibhjdmndlelaaaGreatDoorRow
import Derived.Test.YtibhjdmndlelaaaGreatDoorOpm
import Derived.Test.YtibhjdmndlelaaaGreatDoorProg
import Derived.Test.YtibhjdmndlelaaaGreatDoorT1
import Derived.Test.YtibhjdmndlelaaaGreatDoorMT
import Derived.Test.YtibhjdmndlelaaaGreatDoorM3
import Derived.SevenTiedAt

namespace Go.Proofs.YtibhjdmndlelaaaGreatDoor
open Go.RowKit
attribute [local go_sem] Oper.semAt_some

set_option maxRecDepth 1000000 in
set_option maxHeartbeats 4000000 in
theorem mid_long1 (HA : Hid Awake) (nm0 nm1 nm2 : ByteArray) (st0 st1 st2 tol : Int) (A0 B0 A1 B1 A2 B2 : Option Addr) (c0 d0 c1 d1 c2 d2 : Nat) (bs0 bs1 bs2 : List Nat) (gs0 gs1 gs2 : List (Int × Int)) (w : World) (S0 : Hid (shortR nm0.size bs0.length gs0.length = false)) :
    Calls Tryz.prog 3 #[.agg #[.string nm0, .int .i64 st0, .slice A0 bs0.length c0, .slice B0 gs0.length d0, .string nm1, .int .i64 st1, .slice A1 bs1.length c1, .slice B1 gs1.length d1, .string nm2, .int .i64 st2, .slice A2 bs2.length c2, .slice B2 gs2.length d2], .int .u8 tol] w fun e w' => e = .returned (.bool true) ∧ Below w.heap.size w w' := by
  have hb1 := (Below.refl w.heap.size w).alloc (Nat.le_refl _) (Obj.cells #[.string nm0, .int .i64 st0, .slice A0 bs0.length c0, .slice B0 gs0.length d0, .string nm1, .int .i64 st1, .slice A1 bs1.length c1, .slice B1 gs1.length d1, .string nm2, .int .i64 st2, .slice A2 bs2.length c2, .slice B2 gs2.length d2] 26)
  have HQ := hd (show (w.alloc (Obj.cells #[.string nm0, .int .i64 st0, .slice A0 bs0.length c0, .slice B0 gs0.length d0, .string nm1, .int .i64 st1, .slice A1 bs1.length c1, .slice B1 gs1.length d1, .string nm2, .int .i64 st2, .slice A2 bs2.length c2, .slice B2 gs2.length d2] 26)).heap[w.heap.size]? = some (.cells #[.string nm0, .int .i64 st0, .slice A0 bs0.length c0, .slice B0 gs0.length d0, .string nm1, .int .i64 st1, .slice A1 bs1.length c1, .slice B1 gs1.length d1, .string nm2, .int .i64 st2, .slice A2 bs2.length c2, .slice B2 gs2.length d2] 26 (0, 0)) from blk_new _ _ _)
  have HB := hd hb1
  clear hb1
  go_enter Tryz.func3, Tryz.ntmps3
  go_wp2_with fail
  generalize (w.alloc (Obj.cells #[.string nm0, .int .i64 st0, .slice A0 bs0.length c0, .slice B0 gs0.length d0, .string nm1, .int .i64 st1, .slice A1 bs1.length c1, .slice B1 gs1.length d1, .string nm2, .int .i64 st2, .slice A2 bs2.length c2, .slice B2 gs2.length d2] 26)) = W1 at *
  refine (HA.out _).mono ?_
  rintro e z0 ⟨rfl, hb⟩
  replace HQ := hd ((hb.block _ (blk_lt HQ.out)).trans HQ.out)
  replace HB := hd (HB.out.trans (hb.mono HB.out.size))
  clear hb
  have hZ := cells12 HQ.out
  obtain ⟨k0, k1, k2, k3, k4, k5, k6, k7, k8, k9, k10, k11⟩ := hZ
  go_wp2_with fail
  refine (short_any nm0 st0 A0 B0 bs0.length c0 gs0.length d0 _).mono ?_
  rw [S0.out]
  rintro e z1 ⟨rfl, hb⟩
  replace HQ := hd ((hb.block _ (blk_lt HQ.out)).trans HQ.out)
  replace HB := hd (HB.out.trans (hb.mono HB.out.size))
  clear hb
  clear k0 k1 k2 k3 k4 k5 k6 k7 k8 k9 k10 k11
  go_wp2_with fail
  first | (go_returns; exact ⟨rfl, HB.out⟩) | skip
  all_goals (refine (HA.out _).mono ?_; rintro e zz ⟨rfl, hb⟩; replace HB := hd (HB.out.trans (hb.mono HB.out.size)); clear hb; go_wp2_with fail; go_returns; exact ⟨rfl, HB.out⟩)
set_option maxRecDepth 1000000 in
set_option maxHeartbeats 4000000 in
theorem mid_long2 (HA : Hid Awake) (nm0 nm1 nm2 : ByteArray) (st0 st1 st2 tol : Int) (A0 B0 A1 B1 A2 B2 : Option Addr) (c0 d0 c1 d1 c2 d2 : Nat) (bs0 bs1 bs2 : List Nat) (gs0 gs1 gs2 : List (Int × Int)) (w : World) (S0 : Hid (shortR nm0.size bs0.length gs0.length = true)) (S1 : Hid (shortR nm1.size bs1.length gs1.length = false)) :
    Calls Tryz.prog 3 #[.agg #[.string nm0, .int .i64 st0, .slice A0 bs0.length c0, .slice B0 gs0.length d0, .string nm1, .int .i64 st1, .slice A1 bs1.length c1, .slice B1 gs1.length d1, .string nm2, .int .i64 st2, .slice A2 bs2.length c2, .slice B2 gs2.length d2], .int .u8 tol] w fun e w' => e = .returned (.bool true) ∧ Below w.heap.size w w' := by
  have hb1 := (Below.refl w.heap.size w).alloc (Nat.le_refl _) (Obj.cells #[.string nm0, .int .i64 st0, .slice A0 bs0.length c0, .slice B0 gs0.length d0, .string nm1, .int .i64 st1, .slice A1 bs1.length c1, .slice B1 gs1.length d1, .string nm2, .int .i64 st2, .slice A2 bs2.length c2, .slice B2 gs2.length d2] 26)
  have HQ := hd (show (w.alloc (Obj.cells #[.string nm0, .int .i64 st0, .slice A0 bs0.length c0, .slice B0 gs0.length d0, .string nm1, .int .i64 st1, .slice A1 bs1.length c1, .slice B1 gs1.length d1, .string nm2, .int .i64 st2, .slice A2 bs2.length c2, .slice B2 gs2.length d2] 26)).heap[w.heap.size]? = some (.cells #[.string nm0, .int .i64 st0, .slice A0 bs0.length c0, .slice B0 gs0.length d0, .string nm1, .int .i64 st1, .slice A1 bs1.length c1, .slice B1 gs1.length d1, .string nm2, .int .i64 st2, .slice A2 bs2.length c2, .slice B2 gs2.length d2] 26 (0, 0)) from blk_new _ _ _)
  have HB := hd hb1
  clear hb1
  go_enter Tryz.func3, Tryz.ntmps3
  go_wp2_with fail
  generalize (w.alloc (Obj.cells #[.string nm0, .int .i64 st0, .slice A0 bs0.length c0, .slice B0 gs0.length d0, .string nm1, .int .i64 st1, .slice A1 bs1.length c1, .slice B1 gs1.length d1, .string nm2, .int .i64 st2, .slice A2 bs2.length c2, .slice B2 gs2.length d2] 26)) = W1 at *
  refine (HA.out _).mono ?_
  rintro e z0 ⟨rfl, hb⟩
  replace HQ := hd ((hb.block _ (blk_lt HQ.out)).trans HQ.out)
  replace HB := hd (HB.out.trans (hb.mono HB.out.size))
  clear hb
  have hZ := cells12 HQ.out
  obtain ⟨k0, k1, k2, k3, k4, k5, k6, k7, k8, k9, k10, k11⟩ := hZ
  go_wp2_with fail
  refine (short_any nm0 st0 A0 B0 bs0.length c0 gs0.length d0 _).mono ?_
  rw [S0.out]
  rintro e z1 ⟨rfl, hb⟩
  replace HQ := hd ((hb.block _ (blk_lt HQ.out)).trans HQ.out)
  replace HB := hd (HB.out.trans (hb.mono HB.out.size))
  clear hb
  clear k0 k1 k2 k3 k4 k5 k6 k7 k8 k9 k10 k11
  have hZ := cells12 HQ.out
  obtain ⟨k0, k1, k2, k3, k4, k5, k6, k7, k8, k9, k10, k11⟩ := hZ
  go_wp2_with fail
  refine (short_any nm1 st1 A1 B1 bs1.length c1 gs1.length d1 _).mono ?_
  rw [S1.out]
  rintro e z2 ⟨rfl, hb⟩
  replace HQ := hd ((hb.block _ (blk_lt HQ.out)).trans HQ.out)
  replace HB := hd (HB.out.trans (hb.mono HB.out.size))
  clear hb
  clear k0 k1 k2 k3 k4 k5 k6 k7 k8 k9 k10 k11
  go_wp2_with fail
  first | (go_returns; exact ⟨rfl, HB.out⟩) | skip
  all_goals (refine (HA.out _).mono ?_; rintro e zz ⟨rfl, hb⟩; replace HB := hd (HB.out.trans (hb.mono HB.out.size)); clear hb; go_wp2_with fail; go_returns; exact ⟨rfl, HB.out⟩)
set_option maxRecDepth 1000000 in
set_option maxHeartbeats 4000000 in
theorem mid_long3 (HA : Hid Awake) (nm0 nm1 nm2 : ByteArray) (st0 st1 st2 tol : Int) (A0 B0 A1 B1 A2 B2 : Option Addr) (c0 d0 c1 d1 c2 d2 : Nat) (bs0 bs1 bs2 : List Nat) (gs0 gs1 gs2 : List (Int × Int)) (w : World) (S0 : Hid (shortR nm0.size bs0.length gs0.length = true)) (S1 : Hid (shortR nm1.size bs1.length gs1.length = true)) (S2 : Hid (shortR nm2.size bs2.length gs2.length = false)) :
    Calls Tryz.prog 3 #[.agg #[.string nm0, .int .i64 st0, .slice A0 bs0.length c0, .slice B0 gs0.length d0, .string nm1, .int .i64 st1, .slice A1 bs1.length c1, .slice B1 gs1.length d1, .string nm2, .int .i64 st2, .slice A2 bs2.length c2, .slice B2 gs2.length d2], .int .u8 tol] w fun e w' => e = .returned (.bool true) ∧ Below w.heap.size w w' := by
  have hb1 := (Below.refl w.heap.size w).alloc (Nat.le_refl _) (Obj.cells #[.string nm0, .int .i64 st0, .slice A0 bs0.length c0, .slice B0 gs0.length d0, .string nm1, .int .i64 st1, .slice A1 bs1.length c1, .slice B1 gs1.length d1, .string nm2, .int .i64 st2, .slice A2 bs2.length c2, .slice B2 gs2.length d2] 26)
  have HQ := hd (show (w.alloc (Obj.cells #[.string nm0, .int .i64 st0, .slice A0 bs0.length c0, .slice B0 gs0.length d0, .string nm1, .int .i64 st1, .slice A1 bs1.length c1, .slice B1 gs1.length d1, .string nm2, .int .i64 st2, .slice A2 bs2.length c2, .slice B2 gs2.length d2] 26)).heap[w.heap.size]? = some (.cells #[.string nm0, .int .i64 st0, .slice A0 bs0.length c0, .slice B0 gs0.length d0, .string nm1, .int .i64 st1, .slice A1 bs1.length c1, .slice B1 gs1.length d1, .string nm2, .int .i64 st2, .slice A2 bs2.length c2, .slice B2 gs2.length d2] 26 (0, 0)) from blk_new _ _ _)
  have HB := hd hb1
  clear hb1
  go_enter Tryz.func3, Tryz.ntmps3
  go_wp2_with fail
  generalize (w.alloc (Obj.cells #[.string nm0, .int .i64 st0, .slice A0 bs0.length c0, .slice B0 gs0.length d0, .string nm1, .int .i64 st1, .slice A1 bs1.length c1, .slice B1 gs1.length d1, .string nm2, .int .i64 st2, .slice A2 bs2.length c2, .slice B2 gs2.length d2] 26)) = W1 at *
  refine (HA.out _).mono ?_
  rintro e z0 ⟨rfl, hb⟩
  replace HQ := hd ((hb.block _ (blk_lt HQ.out)).trans HQ.out)
  replace HB := hd (HB.out.trans (hb.mono HB.out.size))
  clear hb
  have hZ := cells12 HQ.out
  obtain ⟨k0, k1, k2, k3, k4, k5, k6, k7, k8, k9, k10, k11⟩ := hZ
  go_wp2_with fail
  refine (short_any nm0 st0 A0 B0 bs0.length c0 gs0.length d0 _).mono ?_
  rw [S0.out]
  rintro e z1 ⟨rfl, hb⟩
  replace HQ := hd ((hb.block _ (blk_lt HQ.out)).trans HQ.out)
  replace HB := hd (HB.out.trans (hb.mono HB.out.size))
  clear hb
  clear k0 k1 k2 k3 k4 k5 k6 k7 k8 k9 k10 k11
  have hZ := cells12 HQ.out
  obtain ⟨k0, k1, k2, k3, k4, k5, k6, k7, k8, k9, k10, k11⟩ := hZ
  go_wp2_with fail
  refine (short_any nm1 st1 A1 B1 bs1.length c1 gs1.length d1 _).mono ?_
  rw [S1.out]
  rintro e z2 ⟨rfl, hb⟩
  replace HQ := hd ((hb.block _ (blk_lt HQ.out)).trans HQ.out)
  replace HB := hd (HB.out.trans (hb.mono HB.out.size))
  clear hb
  clear k0 k1 k2 k3 k4 k5 k6 k7 k8 k9 k10 k11
  have hZ := cells12 HQ.out
  obtain ⟨k0, k1, k2, k3, k4, k5, k6, k7, k8, k9, k10, k11⟩ := hZ
  go_wp2_with fail
  refine (short_any nm2 st2 A2 B2 bs2.length c2 gs2.length d2 _).mono ?_
  rw [S2.out]
  rintro e z3 ⟨rfl, hb⟩
  replace HQ := hd ((hb.block _ (blk_lt HQ.out)).trans HQ.out)
  replace HB := hd (HB.out.trans (hb.mono HB.out.size))
  clear hb
  clear k0 k1 k2 k3 k4 k5 k6 k7 k8 k9 k10 k11
  go_wp2_with fail
  first | (go_returns; exact ⟨rfl, HB.out⟩) | skip
  all_goals (refine (HA.out _).mono ?_; rintro e zz ⟨rfl, hb⟩; replace HB := hd (HB.out.trans (hb.mono HB.out.size)); clear hb; go_wp2_with fail; go_returns; exact ⟨rfl, HB.out⟩)
end Go.Proofs.YtibhjdmndlelaaaGreatDoor

namespace Go.Proofs.YtibhjdmndlelaaaGreatDoor
open Go.RowKit
attribute [local go_sem] Oper.semAt_some

set_option maxRecDepth 1000000 in
set_option maxHeartbeats 8000000 in
theorem mid_bad0E (HA : Hid Awake) (nm0 nm1 nm2 : ByteArray) (E st0 st1 st2 tol : Int) (A0 B0 A1 B1 A2 B2 : Option Addr) (c0 d0 c1 d1 c2 d2 : Nat) (bs0 bs1 bs2 : List Nat) (gs0 gs1 gs2 : List (Int × Int)) (w : World)
    (S0 : Hid (shortR nm0.size bs0.length gs0.length = true)) (S1 : Hid (shortR nm1.size bs1.length gs1.length = true)) (S2 : Hid (shortR nm2.size bs2.length gs2.length = true)) (HL0 : Hid (Rd w w.heap.size (.slice A0 bs0.length c0) bs0.length (flc bs0))) (HG0 : Hid (Rd w w.heap.size (.slice B0 gs0.length d0) gs0.length (spc gs0))) (CR0 : Hid (∀ (X : World) (lv gv : Value), Rd X X.heap.size lv bs0.length (flc bs0) → Rd X X.heap.size gv gs0.length (spc gs0) → Calls Tryz.prog 7 #[.agg #[.string nm0, .int .i64 st0, lv, gv]] X fun e w' => e = .returned (.int .i64 E) ∧ Below X.heap.size X w')) (HE : Hid ((E != 0) = true)) :
    Calls Tryz.prog 3 #[.agg #[.string nm0, .int .i64 st0, .slice A0 bs0.length c0, .slice B0 gs0.length d0, .string nm1, .int .i64 st1, .slice A1 bs1.length c1, .slice B1 gs1.length d1, .string nm2, .int .i64 st2, .slice A2 bs2.length c2, .slice B2 gs2.length d2], .int .u8 tol] w fun e w' => e = .returned (.bool true) ∧ Below w.heap.size w w' := by
  have hb1 := (Below.refl w.heap.size w).alloc (Nat.le_refl _) (Obj.cells #[.string nm0, .int .i64 st0, .slice A0 bs0.length c0, .slice B0 gs0.length d0, .string nm1, .int .i64 st1, .slice A1 bs1.length c1, .slice B1 gs1.length d1, .string nm2, .int .i64 st2, .slice A2 bs2.length c2, .slice B2 gs2.length d2] 26)
  have HQ := hd (show (w.alloc (Obj.cells #[.string nm0, .int .i64 st0, .slice A0 bs0.length c0, .slice B0 gs0.length d0, .string nm1, .int .i64 st1, .slice A1 bs1.length c1, .slice B1 gs1.length d1, .string nm2, .int .i64 st2, .slice A2 bs2.length c2, .slice B2 gs2.length d2] 26)).heap[w.heap.size]? = some (.cells #[.string nm0, .int .i64 st0, .slice A0 bs0.length c0, .slice B0 gs0.length d0, .string nm1, .int .i64 st1, .slice A1 bs1.length c1, .slice B1 gs1.length d1, .string nm2, .int .i64 st2, .slice A2 bs2.length c2, .slice B2 gs2.length d2] 26 (0, 0)) from blk_new _ _ _)
  have HB := hd hb1
  have RL0 := hd ((HL0.out.below hb1 (Nat.le_refl _)).mono hb1.size)
  have RG0 := hd ((HG0.out.below hb1 (Nat.le_refl _)).mono hb1.size)
  clear hb1
  go_enter Tryz.func3, Tryz.ntmps3
  go_wp2_with fail
  generalize (w.alloc (Obj.cells #[.string nm0, .int .i64 st0, .slice A0 bs0.length c0, .slice B0 gs0.length d0, .string nm1, .int .i64 st1, .slice A1 bs1.length c1, .slice B1 gs1.length d1, .string nm2, .int .i64 st2, .slice A2 bs2.length c2, .slice B2 gs2.length d2] 26)) = W1 at *
  refine (HA.out _).mono ?_
  rintro e z0 ⟨rfl, hb⟩
  replace HQ := hd ((hb.block _ (blk_lt HQ.out)).trans HQ.out)
  replace HB := hd (HB.out.trans (hb.mono HB.out.size))
  replace RL0 := hd ((RL0.out.below hb (Nat.le_refl _)).mono hb.size)
  replace RG0 := hd ((RG0.out.below hb (Nat.le_refl _)).mono hb.size)
  clear hb
  have hZ := cells12 HQ.out
  obtain ⟨k0, k1, k2, k3, k4, k5, k6, k7, k8, k9, k10, k11⟩ := hZ
  go_wp2_with fail
  refine (short_any nm0 st0 A0 B0 bs0.length c0 gs0.length d0 _).mono ?_
  rw [S0.out]
  rintro e z1 ⟨rfl, hb⟩
  replace HQ := hd ((hb.block _ (blk_lt HQ.out)).trans HQ.out)
  replace HB := hd (HB.out.trans (hb.mono HB.out.size))
  replace RL0 := hd ((RL0.out.below hb (Nat.le_refl _)).mono hb.size)
  replace RG0 := hd ((RG0.out.below hb (Nat.le_refl _)).mono hb.size)
  clear hb
  clear k0 k1 k2 k3 k4 k5 k6 k7 k8 k9 k10 k11
  have hZ := cells12 HQ.out
  obtain ⟨k0, k1, k2, k3, k4, k5, k6, k7, k8, k9, k10, k11⟩ := hZ
  go_wp2_with fail
  refine (short_any nm1 st1 A1 B1 bs1.length c1 gs1.length d1 _).mono ?_
  rw [S1.out]
  rintro e z2 ⟨rfl, hb⟩
  replace HQ := hd ((hb.block _ (blk_lt HQ.out)).trans HQ.out)
  replace HB := hd (HB.out.trans (hb.mono HB.out.size))
  replace RL0 := hd ((RL0.out.below hb (Nat.le_refl _)).mono hb.size)
  replace RG0 := hd ((RG0.out.below hb (Nat.le_refl _)).mono hb.size)
  clear hb
  clear k0 k1 k2 k3 k4 k5 k6 k7 k8 k9 k10 k11
  have hZ := cells12 HQ.out
  obtain ⟨k0, k1, k2, k3, k4, k5, k6, k7, k8, k9, k10, k11⟩ := hZ
  go_wp2_with fail
  refine (short_any nm2 st2 A2 B2 bs2.length c2 gs2.length d2 _).mono ?_
  rw [S2.out]
  rintro e z3 ⟨rfl, hb⟩
  replace HQ := hd ((hb.block _ (blk_lt HQ.out)).trans HQ.out)
  replace HB := hd (HB.out.trans (hb.mono HB.out.size))
  replace RL0 := hd ((RL0.out.below hb (Nat.le_refl _)).mono hb.size)
  replace RG0 := hd ((RG0.out.below hb (Nat.le_refl _)).mono hb.size)
  clear hb
  clear k0 k1 k2 k3 k4 k5 k6 k7 k8 k9 k10 k11
  have hZ := cells12 HQ.out
  obtain ⟨k0, k1, k2, k3, k4, k5, k6, k7, k8, k9, k10, k11⟩ := hZ
  go_wp2_with fail
  clear k0 k1 k2 k3 k4 k5 k6 k7 k8 k9 k10 k11
  have CX0 := hd (fun (X : World) (hbx : Below z3.heap.size z3 X) => CR0.out X _ _ ((RL0.out.below hbx (Nat.le_refl _)).mono hbx.size) ((RG0.out.below hbx (Nat.le_refl _)).mono hbx.size))
  go_loopw [54] (fun s54 wr => ∃ k : Nat, k ≤ 0 ∧ s54 = .int .i64 k ∧ Hid (Below z3.heap.size z3 wr)) (fun s54 _ => 3 - (intOf s54).toNat)
  case atStart => exact ⟨0, by omega, rfl, hd (Below.refl _ _)⟩
  case round =>
    obtain ⟨k, hk, rfl, HJ⟩ := hrel
    obtain rfl : k = 0 := by omega
    · clear hk
      have hix := idx3m0
      have HJ2 := hd (HJ.out.alloc HJ.out.size (Obj.cells #[.string nm0, .int .i64 st0, .slice A0 bs0.length c0, .slice B0 gs0.length d0] 25))
      go_wp2_with fail
      refine (CX0.out _ HJ2.out).mono ?_
      rintro e w2 ⟨rfl, hb⟩
      have hbx := hb.block wr.heap.size (by simp)
      have hbo := hbx.trans (blk_new wr #[.string nm0, .int .i64 st0, .slice A0 bs0.length c0, .slice B0 gs0.length d0] 25)
      have hZ := cells4 hbo
      obtain ⟨l0, l1, l2, l3⟩ := hZ
      have HJ3 := hd (HJ2.out.trans (hb.mono HJ2.out.size))
      have hZ := cells12 ((HJ3.out.block _ (blk_lt HQ.out)).trans HQ.out)
      obtain ⟨k0, k1, k2, k3, k4, k5, k6, k7, k8, k9, k10, k11⟩ := hZ
      clear hbx hbo hb
      have hE := HE.out
      go_wp2
      go_returns
      exact ⟨rfl, HB.out.trans (HJ3.out.mono HB.out.size)⟩
set_option maxRecDepth 1000000 in
set_option maxHeartbeats 8000000 in
theorem mid_bad1E (HA : Hid Awake) (nm0 nm1 nm2 : ByteArray) (E st0 st1 st2 tol : Int) (A0 B0 A1 B1 A2 B2 : Option Addr) (c0 d0 c1 d1 c2 d2 : Nat) (bs0 bs1 bs2 : List Nat) (gs0 gs1 gs2 : List (Int × Int)) (w : World)
    (S0 : Hid (shortR nm0.size bs0.length gs0.length = true)) (S1 : Hid (shortR nm1.size bs1.length gs1.length = true)) (S2 : Hid (shortR nm2.size bs2.length gs2.length = true)) (HL0 : Hid (Rd w w.heap.size (.slice A0 bs0.length c0) bs0.length (flc bs0))) (HG0 : Hid (Rd w w.heap.size (.slice B0 gs0.length d0) gs0.length (spc gs0))) (CR0 : Hid (∀ (X : World) (lv gv : Value), Rd X X.heap.size lv bs0.length (flc bs0) → Rd X X.heap.size gv gs0.length (spc gs0) → Calls Tryz.prog 7 #[.agg #[.string nm0, .int .i64 st0, lv, gv]] X fun e w' => e = .returned (.int .i64 0) ∧ Below X.heap.size X w')) (HL1 : Hid (Rd w w.heap.size (.slice A1 bs1.length c1) bs1.length (flc bs1))) (HG1 : Hid (Rd w w.heap.size (.slice B1 gs1.length d1) gs1.length (spc gs1))) (CR1 : Hid (∀ (X : World) (lv gv : Value), Rd X X.heap.size lv bs1.length (flc bs1) → Rd X X.heap.size gv gs1.length (spc gs1) → Calls Tryz.prog 7 #[.agg #[.string nm1, .int .i64 st1, lv, gv]] X fun e w' => e = .returned (.int .i64 E) ∧ Below X.heap.size X w')) (HE : Hid ((E != 0) = true)) :
    Calls Tryz.prog 3 #[.agg #[.string nm0, .int .i64 st0, .slice A0 bs0.length c0, .slice B0 gs0.length d0, .string nm1, .int .i64 st1, .slice A1 bs1.length c1, .slice B1 gs1.length d1, .string nm2, .int .i64 st2, .slice A2 bs2.length c2, .slice B2 gs2.length d2], .int .u8 tol] w fun e w' => e = .returned (.bool true) ∧ Below w.heap.size w w' := by
  have hb1 := (Below.refl w.heap.size w).alloc (Nat.le_refl _) (Obj.cells #[.string nm0, .int .i64 st0, .slice A0 bs0.length c0, .slice B0 gs0.length d0, .string nm1, .int .i64 st1, .slice A1 bs1.length c1, .slice B1 gs1.length d1, .string nm2, .int .i64 st2, .slice A2 bs2.length c2, .slice B2 gs2.length d2] 26)
  have HQ := hd (show (w.alloc (Obj.cells #[.string nm0, .int .i64 st0, .slice A0 bs0.length c0, .slice B0 gs0.length d0, .string nm1, .int .i64 st1, .slice A1 bs1.length c1, .slice B1 gs1.length d1, .string nm2, .int .i64 st2, .slice A2 bs2.length c2, .slice B2 gs2.length d2] 26)).heap[w.heap.size]? = some (.cells #[.string nm0, .int .i64 st0, .slice A0 bs0.length c0, .slice B0 gs0.length d0, .string nm1, .int .i64 st1, .slice A1 bs1.length c1, .slice B1 gs1.length d1, .string nm2, .int .i64 st2, .slice A2 bs2.length c2, .slice B2 gs2.length d2] 26 (0, 0)) from blk_new _ _ _)
  have HB := hd hb1
  have RL0 := hd ((HL0.out.below hb1 (Nat.le_refl _)).mono hb1.size)
  have RG0 := hd ((HG0.out.below hb1 (Nat.le_refl _)).mono hb1.size)
  have RL1 := hd ((HL1.out.below hb1 (Nat.le_refl _)).mono hb1.size)
  have RG1 := hd ((HG1.out.below hb1 (Nat.le_refl _)).mono hb1.size)
  clear hb1
  go_enter Tryz.func3, Tryz.ntmps3
  go_wp2_with fail
  generalize (w.alloc (Obj.cells #[.string nm0, .int .i64 st0, .slice A0 bs0.length c0, .slice B0 gs0.length d0, .string nm1, .int .i64 st1, .slice A1 bs1.length c1, .slice B1 gs1.length d1, .string nm2, .int .i64 st2, .slice A2 bs2.length c2, .slice B2 gs2.length d2] 26)) = W1 at *
  refine (HA.out _).mono ?_
  rintro e z0 ⟨rfl, hb⟩
  replace HQ := hd ((hb.block _ (blk_lt HQ.out)).trans HQ.out)
  replace HB := hd (HB.out.trans (hb.mono HB.out.size))
  replace RL0 := hd ((RL0.out.below hb (Nat.le_refl _)).mono hb.size)
  replace RG0 := hd ((RG0.out.below hb (Nat.le_refl _)).mono hb.size)
  replace RL1 := hd ((RL1.out.below hb (Nat.le_refl _)).mono hb.size)
  replace RG1 := hd ((RG1.out.below hb (Nat.le_refl _)).mono hb.size)
  clear hb
  have hZ := cells12 HQ.out
  obtain ⟨k0, k1, k2, k3, k4, k5, k6, k7, k8, k9, k10, k11⟩ := hZ
  go_wp2_with fail
  refine (short_any nm0 st0 A0 B0 bs0.length c0 gs0.length d0 _).mono ?_
  rw [S0.out]
  rintro e z1 ⟨rfl, hb⟩
  replace HQ := hd ((hb.block _ (blk_lt HQ.out)).trans HQ.out)
  replace HB := hd (HB.out.trans (hb.mono HB.out.size))
  replace RL0 := hd ((RL0.out.below hb (Nat.le_refl _)).mono hb.size)
  replace RG0 := hd ((RG0.out.below hb (Nat.le_refl _)).mono hb.size)
  replace RL1 := hd ((RL1.out.below hb (Nat.le_refl _)).mono hb.size)
  replace RG1 := hd ((RG1.out.below hb (Nat.le_refl _)).mono hb.size)
  clear hb
  clear k0 k1 k2 k3 k4 k5 k6 k7 k8 k9 k10 k11
  have hZ := cells12 HQ.out
  obtain ⟨k0, k1, k2, k3, k4, k5, k6, k7, k8, k9, k10, k11⟩ := hZ
  go_wp2_with fail
  refine (short_any nm1 st1 A1 B1 bs1.length c1 gs1.length d1 _).mono ?_
  rw [S1.out]
  rintro e z2 ⟨rfl, hb⟩
  replace HQ := hd ((hb.block _ (blk_lt HQ.out)).trans HQ.out)
  replace HB := hd (HB.out.trans (hb.mono HB.out.size))
  replace RL0 := hd ((RL0.out.below hb (Nat.le_refl _)).mono hb.size)
  replace RG0 := hd ((RG0.out.below hb (Nat.le_refl _)).mono hb.size)
  replace RL1 := hd ((RL1.out.below hb (Nat.le_refl _)).mono hb.size)
  replace RG1 := hd ((RG1.out.below hb (Nat.le_refl _)).mono hb.size)
  clear hb
  clear k0 k1 k2 k3 k4 k5 k6 k7 k8 k9 k10 k11
  have hZ := cells12 HQ.out
  obtain ⟨k0, k1, k2, k3, k4, k5, k6, k7, k8, k9, k10, k11⟩ := hZ
  go_wp2_with fail
  refine (short_any nm2 st2 A2 B2 bs2.length c2 gs2.length d2 _).mono ?_
  rw [S2.out]
  rintro e z3 ⟨rfl, hb⟩
  replace HQ := hd ((hb.block _ (blk_lt HQ.out)).trans HQ.out)
  replace HB := hd (HB.out.trans (hb.mono HB.out.size))
  replace RL0 := hd ((RL0.out.below hb (Nat.le_refl _)).mono hb.size)
  replace RG0 := hd ((RG0.out.below hb (Nat.le_refl _)).mono hb.size)
  replace RL1 := hd ((RL1.out.below hb (Nat.le_refl _)).mono hb.size)
  replace RG1 := hd ((RG1.out.below hb (Nat.le_refl _)).mono hb.size)
  clear hb
  clear k0 k1 k2 k3 k4 k5 k6 k7 k8 k9 k10 k11
  have hZ := cells12 HQ.out
  obtain ⟨k0, k1, k2, k3, k4, k5, k6, k7, k8, k9, k10, k11⟩ := hZ
  go_wp2_with fail
  clear k0 k1 k2 k3 k4 k5 k6 k7 k8 k9 k10 k11
  have CX0 := hd (fun (X : World) (hbx : Below z3.heap.size z3 X) => CR0.out X _ _ ((RL0.out.below hbx (Nat.le_refl _)).mono hbx.size) ((RG0.out.below hbx (Nat.le_refl _)).mono hbx.size))
  have CX1 := hd (fun (X : World) (hbx : Below z3.heap.size z3 X) => CR1.out X _ _ ((RL1.out.below hbx (Nat.le_refl _)).mono hbx.size) ((RG1.out.below hbx (Nat.le_refl _)).mono hbx.size))
  go_loopw [54] (fun s54 wr => ∃ k : Nat, k ≤ 1 ∧ s54 = .int .i64 k ∧ Hid (Below z3.heap.size z3 wr)) (fun s54 _ => 3 - (intOf s54).toNat)
  case atStart => exact ⟨0, by omega, rfl, hd (Below.refl _ _)⟩
  case round =>
    obtain ⟨k, hk, rfl, HJ⟩ := hrel
    rcases (show k = 0 ∨ k = 1 by omega) with rfl | rfl
    · clear hk
      have hix := idx3m0
      have HJ2 := hd (HJ.out.alloc HJ.out.size (Obj.cells #[.string nm0, .int .i64 st0, .slice A0 bs0.length c0, .slice B0 gs0.length d0] 25))
      go_wp2_with fail
      refine (CX0.out _ HJ2.out).mono ?_
      rintro e w2 ⟨rfl, hb⟩
      have hbx := hb.block wr.heap.size (by simp)
      have hbo := hbx.trans (blk_new wr #[.string nm0, .int .i64 st0, .slice A0 bs0.length c0, .slice B0 gs0.length d0] 25)
      have hZ := cells4 hbo
      obtain ⟨l0, l1, l2, l3⟩ := hZ
      have HJ3 := hd (HJ2.out.trans (hb.mono HJ2.out.size))
      have hZ := cells12 ((HJ3.out.block _ (blk_lt HQ.out)).trans HQ.out)
      obtain ⟨k0, k1, k2, k3, k4, k5, k6, k7, k8, k9, k10, k11⟩ := hZ
      clear hbx hbo hb
      go_wp2
      go_roundw
      case rel => exact ⟨0 + 1, by omega, rfl, HJ3⟩
      case measure => simp [intOf]
    · clear hk
      have hix := idx3m1
      have HJ2 := hd (HJ.out.alloc HJ.out.size (Obj.cells #[.string nm1, .int .i64 st1, .slice A1 bs1.length c1, .slice B1 gs1.length d1] 25))
      go_wp2_with fail
      refine (CX1.out _ HJ2.out).mono ?_
      rintro e w2 ⟨rfl, hb⟩
      have hbx := hb.block wr.heap.size (by simp)
      have hbo := hbx.trans (blk_new wr #[.string nm1, .int .i64 st1, .slice A1 bs1.length c1, .slice B1 gs1.length d1] 25)
      have hZ := cells4 hbo
      obtain ⟨l0, l1, l2, l3⟩ := hZ
      have HJ3 := hd (HJ2.out.trans (hb.mono HJ2.out.size))
      have hZ := cells12 ((HJ3.out.block _ (blk_lt HQ.out)).trans HQ.out)
      obtain ⟨k0, k1, k2, k3, k4, k5, k6, k7, k8, k9, k10, k11⟩ := hZ
      clear hbx hbo hb
      have hE := HE.out
      go_wp2
      go_returns
      exact ⟨rfl, HB.out.trans (HJ3.out.mono HB.out.size)⟩
set_option maxRecDepth 1000000 in
set_option maxHeartbeats 8000000 in
theorem mid_bad1S (HA : Hid Awake) (nm0 nm1 nm2 : ByteArray) (st0 st1 st2 tol : Int) (A0 B0 A1 B1 A2 B2 : Option Addr) (c0 d0 c1 d1 c2 d2 : Nat) (bs0 bs1 bs2 : List Nat) (gs0 gs1 gs2 : List (Int × Int)) (w : World)
    (S0 : Hid (shortR nm0.size bs0.length gs0.length = true)) (S1 : Hid (shortR nm1.size bs1.length gs1.length = true)) (S2 : Hid (shortR nm2.size bs2.length gs2.length = true)) (HL0 : Hid (Rd w w.heap.size (.slice A0 bs0.length c0) bs0.length (flc bs0))) (HG0 : Hid (Rd w w.heap.size (.slice B0 gs0.length d0) gs0.length (spc gs0))) (CR0 : Hid (∀ (X : World) (lv gv : Value), Rd X X.heap.size lv bs0.length (flc bs0) → Rd X X.heap.size gv gs0.length (spc gs0) → Calls Tryz.prog 7 #[.agg #[.string nm0, .int .i64 st0, lv, gv]] X fun e w' => e = .returned (.int .i64 0) ∧ Below X.heap.size X w')) (HL1 : Hid (Rd w w.heap.size (.slice A1 bs1.length c1) bs1.length (flc bs1))) (HG1 : Hid (Rd w w.heap.size (.slice B1 gs1.length d1) gs1.length (spc gs1))) (CR1 : Hid (∀ (X : World) (lv gv : Value), Rd X X.heap.size lv bs1.length (flc bs1) → Rd X X.heap.size gv gs1.length (spc gs1) → Calls Tryz.prog 7 #[.agg #[.string nm1, .int .i64 st1, lv, gv]] X fun e w' => e = .returned (.int .i64 0) ∧ Below X.heap.size X w')) (HE : Hid (¬ st1 = st0)) :
    Calls Tryz.prog 3 #[.agg #[.string nm0, .int .i64 st0, .slice A0 bs0.length c0, .slice B0 gs0.length d0, .string nm1, .int .i64 st1, .slice A1 bs1.length c1, .slice B1 gs1.length d1, .string nm2, .int .i64 st2, .slice A2 bs2.length c2, .slice B2 gs2.length d2], .int .u8 tol] w fun e w' => e = .returned (.bool true) ∧ Below w.heap.size w w' := by
  have hb1 := (Below.refl w.heap.size w).alloc (Nat.le_refl _) (Obj.cells #[.string nm0, .int .i64 st0, .slice A0 bs0.length c0, .slice B0 gs0.length d0, .string nm1, .int .i64 st1, .slice A1 bs1.length c1, .slice B1 gs1.length d1, .string nm2, .int .i64 st2, .slice A2 bs2.length c2, .slice B2 gs2.length d2] 26)
  have HQ := hd (show (w.alloc (Obj.cells #[.string nm0, .int .i64 st0, .slice A0 bs0.length c0, .slice B0 gs0.length d0, .string nm1, .int .i64 st1, .slice A1 bs1.length c1, .slice B1 gs1.length d1, .string nm2, .int .i64 st2, .slice A2 bs2.length c2, .slice B2 gs2.length d2] 26)).heap[w.heap.size]? = some (.cells #[.string nm0, .int .i64 st0, .slice A0 bs0.length c0, .slice B0 gs0.length d0, .string nm1, .int .i64 st1, .slice A1 bs1.length c1, .slice B1 gs1.length d1, .string nm2, .int .i64 st2, .slice A2 bs2.length c2, .slice B2 gs2.length d2] 26 (0, 0)) from blk_new _ _ _)
  have HB := hd hb1
  have RL0 := hd ((HL0.out.below hb1 (Nat.le_refl _)).mono hb1.size)
  have RG0 := hd ((HG0.out.below hb1 (Nat.le_refl _)).mono hb1.size)
  have RL1 := hd ((HL1.out.below hb1 (Nat.le_refl _)).mono hb1.size)
  have RG1 := hd ((HG1.out.below hb1 (Nat.le_refl _)).mono hb1.size)
  clear hb1
  go_enter Tryz.func3, Tryz.ntmps3
  go_wp2_with fail
  generalize (w.alloc (Obj.cells #[.string nm0, .int .i64 st0, .slice A0 bs0.length c0, .slice B0 gs0.length d0, .string nm1, .int .i64 st1, .slice A1 bs1.length c1, .slice B1 gs1.length d1, .string nm2, .int .i64 st2, .slice A2 bs2.length c2, .slice B2 gs2.length d2] 26)) = W1 at *
  refine (HA.out _).mono ?_
  rintro e z0 ⟨rfl, hb⟩
  replace HQ := hd ((hb.block _ (blk_lt HQ.out)).trans HQ.out)
  replace HB := hd (HB.out.trans (hb.mono HB.out.size))
  replace RL0 := hd ((RL0.out.below hb (Nat.le_refl _)).mono hb.size)
  replace RG0 := hd ((RG0.out.below hb (Nat.le_refl _)).mono hb.size)
  replace RL1 := hd ((RL1.out.below hb (Nat.le_refl _)).mono hb.size)
  replace RG1 := hd ((RG1.out.below hb (Nat.le_refl _)).mono hb.size)
  clear hb
  have hZ := cells12 HQ.out
  obtain ⟨k0, k1, k2, k3, k4, k5, k6, k7, k8, k9, k10, k11⟩ := hZ
  go_wp2_with fail
  refine (short_any nm0 st0 A0 B0 bs0.length c0 gs0.length d0 _).mono ?_
  rw [S0.out]
  rintro e z1 ⟨rfl, hb⟩
  replace HQ := hd ((hb.block _ (blk_lt HQ.out)).trans HQ.out)
  replace HB := hd (HB.out.trans (hb.mono HB.out.size))
  replace RL0 := hd ((RL0.out.below hb (Nat.le_refl _)).mono hb.size)
  replace RG0 := hd ((RG0.out.below hb (Nat.le_refl _)).mono hb.size)
  replace RL1 := hd ((RL1.out.below hb (Nat.le_refl _)).mono hb.size)
  replace RG1 := hd ((RG1.out.below hb (Nat.le_refl _)).mono hb.size)
  clear hb
  clear k0 k1 k2 k3 k4 k5 k6 k7 k8 k9 k10 k11
  have hZ := cells12 HQ.out
  obtain ⟨k0, k1, k2, k3, k4, k5, k6, k7, k8, k9, k10, k11⟩ := hZ
  go_wp2_with fail
  refine (short_any nm1 st1 A1 B1 bs1.length c1 gs1.length d1 _).mono ?_
  rw [S1.out]
  rintro e z2 ⟨rfl, hb⟩
  replace HQ := hd ((hb.block _ (blk_lt HQ.out)).trans HQ.out)
  replace HB := hd (HB.out.trans (hb.mono HB.out.size))
  replace RL0 := hd ((RL0.out.below hb (Nat.le_refl _)).mono hb.size)
  replace RG0 := hd ((RG0.out.below hb (Nat.le_refl _)).mono hb.size)
  replace RL1 := hd ((RL1.out.below hb (Nat.le_refl _)).mono hb.size)
  replace RG1 := hd ((RG1.out.below hb (Nat.le_refl _)).mono hb.size)
  clear hb
  clear k0 k1 k2 k3 k4 k5 k6 k7 k8 k9 k10 k11
  have hZ := cells12 HQ.out
  obtain ⟨k0, k1, k2, k3, k4, k5, k6, k7, k8, k9, k10, k11⟩ := hZ
  go_wp2_with fail
  refine (short_any nm2 st2 A2 B2 bs2.length c2 gs2.length d2 _).mono ?_
  rw [S2.out]
  rintro e z3 ⟨rfl, hb⟩
  replace HQ := hd ((hb.block _ (blk_lt HQ.out)).trans HQ.out)
  replace HB := hd (HB.out.trans (hb.mono HB.out.size))
  replace RL0 := hd ((RL0.out.below hb (Nat.le_refl _)).mono hb.size)
  replace RG0 := hd ((RG0.out.below hb (Nat.le_refl _)).mono hb.size)
  replace RL1 := hd ((RL1.out.below hb (Nat.le_refl _)).mono hb.size)
  replace RG1 := hd ((RG1.out.below hb (Nat.le_refl _)).mono hb.size)
  clear hb
  clear k0 k1 k2 k3 k4 k5 k6 k7 k8 k9 k10 k11
  have hZ := cells12 HQ.out
  obtain ⟨k0, k1, k2, k3, k4, k5, k6, k7, k8, k9, k10, k11⟩ := hZ
  go_wp2_with fail
  clear k0 k1 k2 k3 k4 k5 k6 k7 k8 k9 k10 k11
  have CX0 := hd (fun (X : World) (hbx : Below z3.heap.size z3 X) => CR0.out X _ _ ((RL0.out.below hbx (Nat.le_refl _)).mono hbx.size) ((RG0.out.below hbx (Nat.le_refl _)).mono hbx.size))
  have CX1 := hd (fun (X : World) (hbx : Below z3.heap.size z3 X) => CR1.out X _ _ ((RL1.out.below hbx (Nat.le_refl _)).mono hbx.size) ((RG1.out.below hbx (Nat.le_refl _)).mono hbx.size))
  go_loopw [54] (fun s54 wr => ∃ k : Nat, k ≤ 1 ∧ s54 = .int .i64 k ∧ Hid (Below z3.heap.size z3 wr)) (fun s54 _ => 3 - (intOf s54).toNat)
  case atStart => exact ⟨0, by omega, rfl, hd (Below.refl _ _)⟩
  case round =>
    obtain ⟨k, hk, rfl, HJ⟩ := hrel
    rcases (show k = 0 ∨ k = 1 by omega) with rfl | rfl
    · clear hk
      have hix := idx3m0
      have HJ2 := hd (HJ.out.alloc HJ.out.size (Obj.cells #[.string nm0, .int .i64 st0, .slice A0 bs0.length c0, .slice B0 gs0.length d0] 25))
      go_wp2_with fail
      refine (CX0.out _ HJ2.out).mono ?_
      rintro e w2 ⟨rfl, hb⟩
      have hbx := hb.block wr.heap.size (by simp)
      have hbo := hbx.trans (blk_new wr #[.string nm0, .int .i64 st0, .slice A0 bs0.length c0, .slice B0 gs0.length d0] 25)
      have hZ := cells4 hbo
      obtain ⟨l0, l1, l2, l3⟩ := hZ
      have HJ3 := hd (HJ2.out.trans (hb.mono HJ2.out.size))
      have hZ := cells12 ((HJ3.out.block _ (blk_lt HQ.out)).trans HQ.out)
      obtain ⟨k0, k1, k2, k3, k4, k5, k6, k7, k8, k9, k10, k11⟩ := hZ
      clear hbx hbo hb
      go_wp2
      go_roundw
      case rel => exact ⟨0 + 1, by omega, rfl, HJ3⟩
      case measure => simp [intOf]
    · clear hk
      have hix := idx3m1
      have HJ2 := hd (HJ.out.alloc HJ.out.size (Obj.cells #[.string nm1, .int .i64 st1, .slice A1 bs1.length c1, .slice B1 gs1.length d1] 25))
      go_wp2_with fail
      refine (CX1.out _ HJ2.out).mono ?_
      rintro e w2 ⟨rfl, hb⟩
      have hbx := hb.block wr.heap.size (by simp)
      have hbo := hbx.trans (blk_new wr #[.string nm1, .int .i64 st1, .slice A1 bs1.length c1, .slice B1 gs1.length d1] 25)
      have hZ := cells4 hbo
      obtain ⟨l0, l1, l2, l3⟩ := hZ
      have HJ3 := hd (HJ2.out.trans (hb.mono HJ2.out.size))
      have hZ := cells12 ((HJ3.out.block _ (blk_lt HQ.out)).trans HQ.out)
      obtain ⟨k0, k1, k2, k3, k4, k5, k6, k7, k8, k9, k10, k11⟩ := hZ
      clear hbx hbo hb
      have hE := HE.out
      go_wp2
      go_returns
      exact ⟨rfl, HB.out.trans (HJ3.out.mono HB.out.size)⟩
set_option maxRecDepth 1000000 in
set_option maxHeartbeats 8000000 in
theorem mid_bad1N (HA : Hid Awake) (nm0 nm1 nm2 : ByteArray) (st0 st2 tol : Int) (A0 B0 A1 B1 A2 B2 : Option Addr) (c0 d0 c1 d1 c2 d2 : Nat) (bs0 bs1 bs2 : List Nat) (gs0 gs1 gs2 : List (Int × Int)) (w : World)
    (S0 : Hid (shortR nm0.size bs0.length gs0.length = true)) (S1 : Hid (shortR nm1.size bs1.length gs1.length = true)) (S2 : Hid (shortR nm2.size bs2.length gs2.length = true)) (HL0 : Hid (Rd w w.heap.size (.slice A0 bs0.length c0) bs0.length (flc bs0))) (HG0 : Hid (Rd w w.heap.size (.slice B0 gs0.length d0) gs0.length (spc gs0))) (CR0 : Hid (∀ (X : World) (lv gv : Value), Rd X X.heap.size lv bs0.length (flc bs0) → Rd X X.heap.size gv gs0.length (spc gs0) → Calls Tryz.prog 7 #[.agg #[.string nm0, .int .i64 st0, lv, gv]] X fun e w' => e = .returned (.int .i64 0) ∧ Below X.heap.size X w')) (HL1 : Hid (Rd w w.heap.size (.slice A1 bs1.length c1) bs1.length (flc bs1))) (HG1 : Hid (Rd w w.heap.size (.slice B1 gs1.length d1) gs1.length (spc gs1))) (CR1 : Hid (∀ (X : World) (lv gv : Value), Rd X X.heap.size lv bs1.length (flc bs1) → Rd X X.heap.size gv gs1.length (spc gs1) → Calls Tryz.prog 7 #[.agg #[.string nm1, .int .i64 st0, lv, gv]] X fun e w' => e = .returned (.int .i64 0) ∧ Below X.heap.size X w')) (HE : Hid (¬ bs1.length = bs0.length)) :
    Calls Tryz.prog 3 #[.agg #[.string nm0, .int .i64 st0, .slice A0 bs0.length c0, .slice B0 gs0.length d0, .string nm1, .int .i64 st0, .slice A1 bs1.length c1, .slice B1 gs1.length d1, .string nm2, .int .i64 st2, .slice A2 bs2.length c2, .slice B2 gs2.length d2], .int .u8 tol] w fun e w' => e = .returned (.bool true) ∧ Below w.heap.size w w' := by
  have hb1 := (Below.refl w.heap.size w).alloc (Nat.le_refl _) (Obj.cells #[.string nm0, .int .i64 st0, .slice A0 bs0.length c0, .slice B0 gs0.length d0, .string nm1, .int .i64 st0, .slice A1 bs1.length c1, .slice B1 gs1.length d1, .string nm2, .int .i64 st2, .slice A2 bs2.length c2, .slice B2 gs2.length d2] 26)
  have HQ := hd (show (w.alloc (Obj.cells #[.string nm0, .int .i64 st0, .slice A0 bs0.length c0, .slice B0 gs0.length d0, .string nm1, .int .i64 st0, .slice A1 bs1.length c1, .slice B1 gs1.length d1, .string nm2, .int .i64 st2, .slice A2 bs2.length c2, .slice B2 gs2.length d2] 26)).heap[w.heap.size]? = some (.cells #[.string nm0, .int .i64 st0, .slice A0 bs0.length c0, .slice B0 gs0.length d0, .string nm1, .int .i64 st0, .slice A1 bs1.length c1, .slice B1 gs1.length d1, .string nm2, .int .i64 st2, .slice A2 bs2.length c2, .slice B2 gs2.length d2] 26 (0, 0)) from blk_new _ _ _)
  have HB := hd hb1
  have RL0 := hd ((HL0.out.below hb1 (Nat.le_refl _)).mono hb1.size)
  have RG0 := hd ((HG0.out.below hb1 (Nat.le_refl _)).mono hb1.size)
  have RL1 := hd ((HL1.out.below hb1 (Nat.le_refl _)).mono hb1.size)
  have RG1 := hd ((HG1.out.below hb1 (Nat.le_refl _)).mono hb1.size)
  clear hb1
  go_enter Tryz.func3, Tryz.ntmps3
  go_wp2_with fail
  generalize (w.alloc (Obj.cells #[.string nm0, .int .i64 st0, .slice A0 bs0.length c0, .slice B0 gs0.length d0, .string nm1, .int .i64 st0, .slice A1 bs1.length c1, .slice B1 gs1.length d1, .string nm2, .int .i64 st2, .slice A2 bs2.length c2, .slice B2 gs2.length d2] 26)) = W1 at *
  refine (HA.out _).mono ?_
  rintro e z0 ⟨rfl, hb⟩
  replace HQ := hd ((hb.block _ (blk_lt HQ.out)).trans HQ.out)
  replace HB := hd (HB.out.trans (hb.mono HB.out.size))
  replace RL0 := hd ((RL0.out.below hb (Nat.le_refl _)).mono hb.size)
  replace RG0 := hd ((RG0.out.below hb (Nat.le_refl _)).mono hb.size)
  replace RL1 := hd ((RL1.out.below hb (Nat.le_refl _)).mono hb.size)
  replace RG1 := hd ((RG1.out.below hb (Nat.le_refl _)).mono hb.size)
  clear hb
  have hZ := cells12 HQ.out
  obtain ⟨k0, k1, k2, k3, k4, k5, k6, k7, k8, k9, k10, k11⟩ := hZ
  go_wp2_with fail
  refine (short_any nm0 st0 A0 B0 bs0.length c0 gs0.length d0 _).mono ?_
  rw [S0.out]
  rintro e z1 ⟨rfl, hb⟩
  replace HQ := hd ((hb.block _ (blk_lt HQ.out)).trans HQ.out)
  replace HB := hd (HB.out.trans (hb.mono HB.out.size))
  replace RL0 := hd ((RL0.out.below hb (Nat.le_refl _)).mono hb.size)
  replace RG0 := hd ((RG0.out.below hb (Nat.le_refl _)).mono hb.size)
  replace RL1 := hd ((RL1.out.below hb (Nat.le_refl _)).mono hb.size)
  replace RG1 := hd ((RG1.out.below hb (Nat.le_refl _)).mono hb.size)
  clear hb
  clear k0 k1 k2 k3 k4 k5 k6 k7 k8 k9 k10 k11
  have hZ := cells12 HQ.out
  obtain ⟨k0, k1, k2, k3, k4, k5, k6, k7, k8, k9, k10, k11⟩ := hZ
  go_wp2_with fail
  refine (short_any nm1 st0 A1 B1 bs1.length c1 gs1.length d1 _).mono ?_
  rw [S1.out]
  rintro e z2 ⟨rfl, hb⟩
  replace HQ := hd ((hb.block _ (blk_lt HQ.out)).trans HQ.out)
  replace HB := hd (HB.out.trans (hb.mono HB.out.size))
  replace RL0 := hd ((RL0.out.below hb (Nat.le_refl _)).mono hb.size)
  replace RG0 := hd ((RG0.out.below hb (Nat.le_refl _)).mono hb.size)
  replace RL1 := hd ((RL1.out.below hb (Nat.le_refl _)).mono hb.size)
  replace RG1 := hd ((RG1.out.below hb (Nat.le_refl _)).mono hb.size)
  clear hb
  clear k0 k1 k2 k3 k4 k5 k6 k7 k8 k9 k10 k11
  have hZ := cells12 HQ.out
  obtain ⟨k0, k1, k2, k3, k4, k5, k6, k7, k8, k9, k10, k11⟩ := hZ
  go_wp2_with fail
  refine (short_any nm2 st2 A2 B2 bs2.length c2 gs2.length d2 _).mono ?_
  rw [S2.out]
  rintro e z3 ⟨rfl, hb⟩
  replace HQ := hd ((hb.block _ (blk_lt HQ.out)).trans HQ.out)
  replace HB := hd (HB.out.trans (hb.mono HB.out.size))
  replace RL0 := hd ((RL0.out.below hb (Nat.le_refl _)).mono hb.size)
  replace RG0 := hd ((RG0.out.below hb (Nat.le_refl _)).mono hb.size)
  replace RL1 := hd ((RL1.out.below hb (Nat.le_refl _)).mono hb.size)
  replace RG1 := hd ((RG1.out.below hb (Nat.le_refl _)).mono hb.size)
  clear hb
  clear k0 k1 k2 k3 k4 k5 k6 k7 k8 k9 k10 k11
  have hZ := cells12 HQ.out
  obtain ⟨k0, k1, k2, k3, k4, k5, k6, k7, k8, k9, k10, k11⟩ := hZ
  go_wp2_with fail
  clear k0 k1 k2 k3 k4 k5 k6 k7 k8 k9 k10 k11
  have CX0 := hd (fun (X : World) (hbx : Below z3.heap.size z3 X) => CR0.out X _ _ ((RL0.out.below hbx (Nat.le_refl _)).mono hbx.size) ((RG0.out.below hbx (Nat.le_refl _)).mono hbx.size))
  have CX1 := hd (fun (X : World) (hbx : Below z3.heap.size z3 X) => CR1.out X _ _ ((RL1.out.below hbx (Nat.le_refl _)).mono hbx.size) ((RG1.out.below hbx (Nat.le_refl _)).mono hbx.size))
  go_loopw [54] (fun s54 wr => ∃ k : Nat, k ≤ 1 ∧ s54 = .int .i64 k ∧ Hid (Below z3.heap.size z3 wr)) (fun s54 _ => 3 - (intOf s54).toNat)
  case atStart => exact ⟨0, by omega, rfl, hd (Below.refl _ _)⟩
  case round =>
    obtain ⟨k, hk, rfl, HJ⟩ := hrel
    rcases (show k = 0 ∨ k = 1 by omega) with rfl | rfl
    · clear hk
      have hix := idx3m0
      have HJ2 := hd (HJ.out.alloc HJ.out.size (Obj.cells #[.string nm0, .int .i64 st0, .slice A0 bs0.length c0, .slice B0 gs0.length d0] 25))
      go_wp2_with fail
      refine (CX0.out _ HJ2.out).mono ?_
      rintro e w2 ⟨rfl, hb⟩
      have hbx := hb.block wr.heap.size (by simp)
      have hbo := hbx.trans (blk_new wr #[.string nm0, .int .i64 st0, .slice A0 bs0.length c0, .slice B0 gs0.length d0] 25)
      have hZ := cells4 hbo
      obtain ⟨l0, l1, l2, l3⟩ := hZ
      have HJ3 := hd (HJ2.out.trans (hb.mono HJ2.out.size))
      have hZ := cells12 ((HJ3.out.block _ (blk_lt HQ.out)).trans HQ.out)
      obtain ⟨k0, k1, k2, k3, k4, k5, k6, k7, k8, k9, k10, k11⟩ := hZ
      clear hbx hbo hb
      go_wp2
      go_roundw
      case rel => exact ⟨0 + 1, by omega, rfl, HJ3⟩
      case measure => simp [intOf]
    · clear hk
      have hix := idx3m1
      have HJ2 := hd (HJ.out.alloc HJ.out.size (Obj.cells #[.string nm1, .int .i64 st0, .slice A1 bs1.length c1, .slice B1 gs1.length d1] 25))
      go_wp2_with fail
      refine (CX1.out _ HJ2.out).mono ?_
      rintro e w2 ⟨rfl, hb⟩
      have hbx := hb.block wr.heap.size (by simp)
      have hbo := hbx.trans (blk_new wr #[.string nm1, .int .i64 st0, .slice A1 bs1.length c1, .slice B1 gs1.length d1] 25)
      have hZ := cells4 hbo
      obtain ⟨l0, l1, l2, l3⟩ := hZ
      have HJ3 := hd (HJ2.out.trans (hb.mono HJ2.out.size))
      have hZ := cells12 ((HJ3.out.block _ (blk_lt HQ.out)).trans HQ.out)
      obtain ⟨k0, k1, k2, k3, k4, k5, k6, k7, k8, k9, k10, k11⟩ := hZ
      clear hbx hbo hb
      have hE := HE.out
      have hln : ¬ (bs1.length : Int) = (bs0.length : Int) := by omega
      clear hE
      go_wp2
      go_returns
      exact ⟨rfl, HB.out.trans (HJ3.out.mono HB.out.size)⟩
set_option maxRecDepth 1000000 in
set_option maxHeartbeats 8000000 in
theorem mid_bad2E (HA : Hid Awake) (nm0 nm1 nm2 : ByteArray) (E st0 st2 tol : Int) (A0 B0 A1 B1 A2 B2 : Option Addr) (c0 d0 c1 d1 c2 d2 : Nat) (bs0 bs1 bs2 : List Nat) (gs0 gs1 gs2 : List (Int × Int)) (w : World)
    (S0 : Hid (shortR nm0.size bs0.length gs0.length = true)) (S1 : Hid (shortR nm1.size bs1.length gs1.length = true)) (S2 : Hid (shortR nm2.size bs2.length gs2.length = true)) (HL0 : Hid (Rd w w.heap.size (.slice A0 bs0.length c0) bs0.length (flc bs0))) (HG0 : Hid (Rd w w.heap.size (.slice B0 gs0.length d0) gs0.length (spc gs0))) (CR0 : Hid (∀ (X : World) (lv gv : Value), Rd X X.heap.size lv bs0.length (flc bs0) → Rd X X.heap.size gv gs0.length (spc gs0) → Calls Tryz.prog 7 #[.agg #[.string nm0, .int .i64 st0, lv, gv]] X fun e w' => e = .returned (.int .i64 0) ∧ Below X.heap.size X w')) (HL1 : Hid (Rd w w.heap.size (.slice A1 bs1.length c1) bs1.length (flc bs1))) (HG1 : Hid (Rd w w.heap.size (.slice B1 gs1.length d1) gs1.length (spc gs1))) (CR1 : Hid (∀ (X : World) (lv gv : Value), Rd X X.heap.size lv bs1.length (flc bs1) → Rd X X.heap.size gv gs1.length (spc gs1) → Calls Tryz.prog 7 #[.agg #[.string nm1, .int .i64 st0, lv, gv]] X fun e w' => e = .returned (.int .i64 0) ∧ Below X.heap.size X w')) (HN1 : Hid (bs1.length = bs0.length)) (HL2 : Hid (Rd w w.heap.size (.slice A2 bs2.length c2) bs2.length (flc bs2))) (HG2 : Hid (Rd w w.heap.size (.slice B2 gs2.length d2) gs2.length (spc gs2))) (CR2 : Hid (∀ (X : World) (lv gv : Value), Rd X X.heap.size lv bs2.length (flc bs2) → Rd X X.heap.size gv gs2.length (spc gs2) → Calls Tryz.prog 7 #[.agg #[.string nm2, .int .i64 st2, lv, gv]] X fun e w' => e = .returned (.int .i64 E) ∧ Below X.heap.size X w')) (HE : Hid ((E != 0) = true)) :
    Calls Tryz.prog 3 #[.agg #[.string nm0, .int .i64 st0, .slice A0 bs0.length c0, .slice B0 gs0.length d0, .string nm1, .int .i64 st0, .slice A1 bs1.length c1, .slice B1 gs1.length d1, .string nm2, .int .i64 st2, .slice A2 bs2.length c2, .slice B2 gs2.length d2], .int .u8 tol] w fun e w' => e = .returned (.bool true) ∧ Below w.heap.size w w' := by
  have hb1 := (Below.refl w.heap.size w).alloc (Nat.le_refl _) (Obj.cells #[.string nm0, .int .i64 st0, .slice A0 bs0.length c0, .slice B0 gs0.length d0, .string nm1, .int .i64 st0, .slice A1 bs1.length c1, .slice B1 gs1.length d1, .string nm2, .int .i64 st2, .slice A2 bs2.length c2, .slice B2 gs2.length d2] 26)
  have HQ := hd (show (w.alloc (Obj.cells #[.string nm0, .int .i64 st0, .slice A0 bs0.length c0, .slice B0 gs0.length d0, .string nm1, .int .i64 st0, .slice A1 bs1.length c1, .slice B1 gs1.length d1, .string nm2, .int .i64 st2, .slice A2 bs2.length c2, .slice B2 gs2.length d2] 26)).heap[w.heap.size]? = some (.cells #[.string nm0, .int .i64 st0, .slice A0 bs0.length c0, .slice B0 gs0.length d0, .string nm1, .int .i64 st0, .slice A1 bs1.length c1, .slice B1 gs1.length d1, .string nm2, .int .i64 st2, .slice A2 bs2.length c2, .slice B2 gs2.length d2] 26 (0, 0)) from blk_new _ _ _)
  have HB := hd hb1
  have RL0 := hd ((HL0.out.below hb1 (Nat.le_refl _)).mono hb1.size)
  have RG0 := hd ((HG0.out.below hb1 (Nat.le_refl _)).mono hb1.size)
  have RL1 := hd ((HL1.out.below hb1 (Nat.le_refl _)).mono hb1.size)
  have RG1 := hd ((HG1.out.below hb1 (Nat.le_refl _)).mono hb1.size)
  have RL2 := hd ((HL2.out.below hb1 (Nat.le_refl _)).mono hb1.size)
  have RG2 := hd ((HG2.out.below hb1 (Nat.le_refl _)).mono hb1.size)
  clear hb1
  go_enter Tryz.func3, Tryz.ntmps3
  go_wp2_with fail
  generalize (w.alloc (Obj.cells #[.string nm0, .int .i64 st0, .slice A0 bs0.length c0, .slice B0 gs0.length d0, .string nm1, .int .i64 st0, .slice A1 bs1.length c1, .slice B1 gs1.length d1, .string nm2, .int .i64 st2, .slice A2 bs2.length c2, .slice B2 gs2.length d2] 26)) = W1 at *
  refine (HA.out _).mono ?_
  rintro e z0 ⟨rfl, hb⟩
  replace HQ := hd ((hb.block _ (blk_lt HQ.out)).trans HQ.out)
  replace HB := hd (HB.out.trans (hb.mono HB.out.size))
  replace RL0 := hd ((RL0.out.below hb (Nat.le_refl _)).mono hb.size)
  replace RG0 := hd ((RG0.out.below hb (Nat.le_refl _)).mono hb.size)
  replace RL1 := hd ((RL1.out.below hb (Nat.le_refl _)).mono hb.size)
  replace RG1 := hd ((RG1.out.below hb (Nat.le_refl _)).mono hb.size)
  replace RL2 := hd ((RL2.out.below hb (Nat.le_refl _)).mono hb.size)
  replace RG2 := hd ((RG2.out.below hb (Nat.le_refl _)).mono hb.size)
  clear hb
  have hZ := cells12 HQ.out
  obtain ⟨k0, k1, k2, k3, k4, k5, k6, k7, k8, k9, k10, k11⟩ := hZ
  go_wp2_with fail
  refine (short_any nm0 st0 A0 B0 bs0.length c0 gs0.length d0 _).mono ?_
  rw [S0.out]
  rintro e z1 ⟨rfl, hb⟩
  replace HQ := hd ((hb.block _ (blk_lt HQ.out)).trans HQ.out)
  replace HB := hd (HB.out.trans (hb.mono HB.out.size))
  replace RL0 := hd ((RL0.out.below hb (Nat.le_refl _)).mono hb.size)
  replace RG0 := hd ((RG0.out.below hb (Nat.le_refl _)).mono hb.size)
  replace RL1 := hd ((RL1.out.below hb (Nat.le_refl _)).mono hb.size)
  replace RG1 := hd ((RG1.out.below hb (Nat.le_refl _)).mono hb.size)
  replace RL2 := hd ((RL2.out.below hb (Nat.le_refl _)).mono hb.size)
  replace RG2 := hd ((RG2.out.below hb (Nat.le_refl _)).mono hb.size)
  clear hb
  clear k0 k1 k2 k3 k4 k5 k6 k7 k8 k9 k10 k11
  have hZ := cells12 HQ.out
  obtain ⟨k0, k1, k2, k3, k4, k5, k6, k7, k8, k9, k10, k11⟩ := hZ
  go_wp2_with fail
  refine (short_any nm1 st0 A1 B1 bs1.length c1 gs1.length d1 _).mono ?_
  rw [S1.out]
  rintro e z2 ⟨rfl, hb⟩
  replace HQ := hd ((hb.block _ (blk_lt HQ.out)).trans HQ.out)
  replace HB := hd (HB.out.trans (hb.mono HB.out.size))
  replace RL0 := hd ((RL0.out.below hb (Nat.le_refl _)).mono hb.size)
  replace RG0 := hd ((RG0.out.below hb (Nat.le_refl _)).mono hb.size)
  replace RL1 := hd ((RL1.out.below hb (Nat.le_refl _)).mono hb.size)
  replace RG1 := hd ((RG1.out.below hb (Nat.le_refl _)).mono hb.size)
  replace RL2 := hd ((RL2.out.below hb (Nat.le_refl _)).mono hb.size)
  replace RG2 := hd ((RG2.out.below hb (Nat.le_refl _)).mono hb.size)
  clear hb
  clear k0 k1 k2 k3 k4 k5 k6 k7 k8 k9 k10 k11
  have hZ := cells12 HQ.out
  obtain ⟨k0, k1, k2, k3, k4, k5, k6, k7, k8, k9, k10, k11⟩ := hZ
  go_wp2_with fail
  refine (short_any nm2 st2 A2 B2 bs2.length c2 gs2.length d2 _).mono ?_
  rw [S2.out]
  rintro e z3 ⟨rfl, hb⟩
  replace HQ := hd ((hb.block _ (blk_lt HQ.out)).trans HQ.out)
  replace HB := hd (HB.out.trans (hb.mono HB.out.size))
  replace RL0 := hd ((RL0.out.below hb (Nat.le_refl _)).mono hb.size)
  replace RG0 := hd ((RG0.out.below hb (Nat.le_refl _)).mono hb.size)
  replace RL1 := hd ((RL1.out.below hb (Nat.le_refl _)).mono hb.size)
  replace RG1 := hd ((RG1.out.below hb (Nat.le_refl _)).mono hb.size)
  replace RL2 := hd ((RL2.out.below hb (Nat.le_refl _)).mono hb.size)
  replace RG2 := hd ((RG2.out.below hb (Nat.le_refl _)).mono hb.size)
  clear hb
  clear k0 k1 k2 k3 k4 k5 k6 k7 k8 k9 k10 k11
  have hZ := cells12 HQ.out
  obtain ⟨k0, k1, k2, k3, k4, k5, k6, k7, k8, k9, k10, k11⟩ := hZ
  go_wp2_with fail
  clear k0 k1 k2 k3 k4 k5 k6 k7 k8 k9 k10 k11
  have CX0 := hd (fun (X : World) (hbx : Below z3.heap.size z3 X) => CR0.out X _ _ ((RL0.out.below hbx (Nat.le_refl _)).mono hbx.size) ((RG0.out.below hbx (Nat.le_refl _)).mono hbx.size))
  have CX1 := hd (fun (X : World) (hbx : Below z3.heap.size z3 X) => CR1.out X _ _ ((RL1.out.below hbx (Nat.le_refl _)).mono hbx.size) ((RG1.out.below hbx (Nat.le_refl _)).mono hbx.size))
  have CX2 := hd (fun (X : World) (hbx : Below z3.heap.size z3 X) => CR2.out X _ _ ((RL2.out.below hbx (Nat.le_refl _)).mono hbx.size) ((RG2.out.below hbx (Nat.le_refl _)).mono hbx.size))
  go_loopw [54] (fun s54 wr => ∃ k : Nat, k ≤ 2 ∧ s54 = .int .i64 k ∧ Hid (Below z3.heap.size z3 wr)) (fun s54 _ => 3 - (intOf s54).toNat)
  case atStart => exact ⟨0, by omega, rfl, hd (Below.refl _ _)⟩
  case round =>
    obtain ⟨k, hk, rfl, HJ⟩ := hrel
    rcases (show k = 0 ∨ k = 1 ∨ k = 2 by omega) with rfl | rfl | rfl
    · clear hk
      have hix := idx3m0
      have HJ2 := hd (HJ.out.alloc HJ.out.size (Obj.cells #[.string nm0, .int .i64 st0, .slice A0 bs0.length c0, .slice B0 gs0.length d0] 25))
      go_wp2_with fail
      refine (CX0.out _ HJ2.out).mono ?_
      rintro e w2 ⟨rfl, hb⟩
      have hbx := hb.block wr.heap.size (by simp)
      have hbo := hbx.trans (blk_new wr #[.string nm0, .int .i64 st0, .slice A0 bs0.length c0, .slice B0 gs0.length d0] 25)
      have hZ := cells4 hbo
      obtain ⟨l0, l1, l2, l3⟩ := hZ
      have HJ3 := hd (HJ2.out.trans (hb.mono HJ2.out.size))
      have hZ := cells12 ((HJ3.out.block _ (blk_lt HQ.out)).trans HQ.out)
      obtain ⟨k0, k1, k2, k3, k4, k5, k6, k7, k8, k9, k10, k11⟩ := hZ
      clear hbx hbo hb
      go_wp2
      go_roundw
      case rel => exact ⟨0 + 1, by omega, rfl, HJ3⟩
      case measure => simp [intOf]
    · clear hk
      have hix := idx3m1
      have HJ2 := hd (HJ.out.alloc HJ.out.size (Obj.cells #[.string nm1, .int .i64 st0, .slice A1 bs1.length c1, .slice B1 gs1.length d1] 25))
      go_wp2_with fail
      refine (CX1.out _ HJ2.out).mono ?_
      rintro e w2 ⟨rfl, hb⟩
      have hbx := hb.block wr.heap.size (by simp)
      have hbo := hbx.trans (blk_new wr #[.string nm1, .int .i64 st0, .slice A1 bs1.length c1, .slice B1 gs1.length d1] 25)
      have hZ := cells4 hbo
      obtain ⟨l0, l1, l2, l3⟩ := hZ
      have HJ3 := hd (HJ2.out.trans (hb.mono HJ2.out.size))
      have hZ := cells12 ((HJ3.out.block _ (blk_lt HQ.out)).trans HQ.out)
      obtain ⟨k0, k1, k2, k3, k4, k5, k6, k7, k8, k9, k10, k11⟩ := hZ
      clear hbx hbo hb
      have hln : (bs1.length : Int) = (bs0.length : Int) := by have := HN1.out; omega
      go_wp2
      go_roundw
      case rel => exact ⟨1 + 1, by omega, rfl, HJ3⟩
      case measure => simp [intOf]
    · clear hk
      have hix := idx3m2
      have HJ2 := hd (HJ.out.alloc HJ.out.size (Obj.cells #[.string nm2, .int .i64 st2, .slice A2 bs2.length c2, .slice B2 gs2.length d2] 25))
      go_wp2_with fail
      refine (CX2.out _ HJ2.out).mono ?_
      rintro e w2 ⟨rfl, hb⟩
      have hbx := hb.block wr.heap.size (by simp)
      have hbo := hbx.trans (blk_new wr #[.string nm2, .int .i64 st2, .slice A2 bs2.length c2, .slice B2 gs2.length d2] 25)
      have hZ := cells4 hbo
      obtain ⟨l0, l1, l2, l3⟩ := hZ
      have HJ3 := hd (HJ2.out.trans (hb.mono HJ2.out.size))
      have hZ := cells12 ((HJ3.out.block _ (blk_lt HQ.out)).trans HQ.out)
      obtain ⟨k0, k1, k2, k3, k4, k5, k6, k7, k8, k9, k10, k11⟩ := hZ
      clear hbx hbo hb
      have hE := HE.out
      go_wp2
      go_returns
      exact ⟨rfl, HB.out.trans (HJ3.out.mono HB.out.size)⟩
set_option maxRecDepth 1000000 in
set_option maxHeartbeats 8000000 in
theorem mid_bad2S (HA : Hid Awake) (nm0 nm1 nm2 : ByteArray) (st0 st2 tol : Int) (A0 B0 A1 B1 A2 B2 : Option Addr) (c0 d0 c1 d1 c2 d2 : Nat) (bs0 bs1 bs2 : List Nat) (gs0 gs1 gs2 : List (Int × Int)) (w : World)
    (S0 : Hid (shortR nm0.size bs0.length gs0.length = true)) (S1 : Hid (shortR nm1.size bs1.length gs1.length = true)) (S2 : Hid (shortR nm2.size bs2.length gs2.length = true)) (HL0 : Hid (Rd w w.heap.size (.slice A0 bs0.length c0) bs0.length (flc bs0))) (HG0 : Hid (Rd w w.heap.size (.slice B0 gs0.length d0) gs0.length (spc gs0))) (CR0 : Hid (∀ (X : World) (lv gv : Value), Rd X X.heap.size lv bs0.length (flc bs0) → Rd X X.heap.size gv gs0.length (spc gs0) → Calls Tryz.prog 7 #[.agg #[.string nm0, .int .i64 st0, lv, gv]] X fun e w' => e = .returned (.int .i64 0) ∧ Below X.heap.size X w')) (HL1 : Hid (Rd w w.heap.size (.slice A1 bs1.length c1) bs1.length (flc bs1))) (HG1 : Hid (Rd w w.heap.size (.slice B1 gs1.length d1) gs1.length (spc gs1))) (CR1 : Hid (∀ (X : World) (lv gv : Value), Rd X X.heap.size lv bs1.length (flc bs1) → Rd X X.heap.size gv gs1.length (spc gs1) → Calls Tryz.prog 7 #[.agg #[.string nm1, .int .i64 st0, lv, gv]] X fun e w' => e = .returned (.int .i64 0) ∧ Below X.heap.size X w')) (HN1 : Hid (bs1.length = bs0.length)) (HL2 : Hid (Rd w w.heap.size (.slice A2 bs2.length c2) bs2.length (flc bs2))) (HG2 : Hid (Rd w w.heap.size (.slice B2 gs2.length d2) gs2.length (spc gs2))) (CR2 : Hid (∀ (X : World) (lv gv : Value), Rd X X.heap.size lv bs2.length (flc bs2) → Rd X X.heap.size gv gs2.length (spc gs2) → Calls Tryz.prog 7 #[.agg #[.string nm2, .int .i64 st2, lv, gv]] X fun e w' => e = .returned (.int .i64 0) ∧ Below X.heap.size X w')) (HE : Hid (¬ st2 = st0)) :
    Calls Tryz.prog 3 #[.agg #[.string nm0, .int .i64 st0, .slice A0 bs0.length c0, .slice B0 gs0.length d0, .string nm1, .int .i64 st0, .slice A1 bs1.length c1, .slice B1 gs1.length d1, .string nm2, .int .i64 st2, .slice A2 bs2.length c2, .slice B2 gs2.length d2], .int .u8 tol] w fun e w' => e = .returned (.bool true) ∧ Below w.heap.size w w' := by
  have hb1 := (Below.refl w.heap.size w).alloc (Nat.le_refl _) (Obj.cells #[.string nm0, .int .i64 st0, .slice A0 bs0.length c0, .slice B0 gs0.length d0, .string nm1, .int .i64 st0, .slice A1 bs1.length c1, .slice B1 gs1.length d1, .string nm2, .int .i64 st2, .slice A2 bs2.length c2, .slice B2 gs2.length d2] 26)
  have HQ := hd (show (w.alloc (Obj.cells #[.string nm0, .int .i64 st0, .slice A0 bs0.length c0, .slice B0 gs0.length d0, .string nm1, .int .i64 st0, .slice A1 bs1.length c1, .slice B1 gs1.length d1, .string nm2, .int .i64 st2, .slice A2 bs2.length c2, .slice B2 gs2.length d2] 26)).heap[w.heap.size]? = some (.cells #[.string nm0, .int .i64 st0, .slice A0 bs0.length c0, .slice B0 gs0.length d0, .string nm1, .int .i64 st0, .slice A1 bs1.length c1, .slice B1 gs1.length d1, .string nm2, .int .i64 st2, .slice A2 bs2.length c2, .slice B2 gs2.length d2] 26 (0, 0)) from blk_new _ _ _)
  have HB := hd hb1
  have RL0 := hd ((HL0.out.below hb1 (Nat.le_refl _)).mono hb1.size)
  have RG0 := hd ((HG0.out.below hb1 (Nat.le_refl _)).mono hb1.size)
  have RL1 := hd ((HL1.out.below hb1 (Nat.le_refl _)).mono hb1.size)
  have RG1 := hd ((HG1.out.below hb1 (Nat.le_refl _)).mono hb1.size)
  have RL2 := hd ((HL2.out.below hb1 (Nat.le_refl _)).mono hb1.size)
  have RG2 := hd ((HG2.out.below hb1 (Nat.le_refl _)).mono hb1.size)
  clear hb1
  go_enter Tryz.func3, Tryz.ntmps3
  go_wp2_with fail
  generalize (w.alloc (Obj.cells #[.string nm0, .int .i64 st0, .slice A0 bs0.length c0, .slice B0 gs0.length d0, .string nm1, .int .i64 st0, .slice A1 bs1.length c1, .slice B1 gs1.length d1, .string nm2, .int .i64 st2, .slice A2 bs2.length c2, .slice B2 gs2.length d2] 26)) = W1 at *
  refine (HA.out _).mono ?_
  rintro e z0 ⟨rfl, hb⟩
  replace HQ := hd ((hb.block _ (blk_lt HQ.out)).trans HQ.out)
  replace HB := hd (HB.out.trans (hb.mono HB.out.size))
  replace RL0 := hd ((RL0.out.below hb (Nat.le_refl _)).mono hb.size)
  replace RG0 := hd ((RG0.out.below hb (Nat.le_refl _)).mono hb.size)
  replace RL1 := hd ((RL1.out.below hb (Nat.le_refl _)).mono hb.size)
  replace RG1 := hd ((RG1.out.below hb (Nat.le_refl _)).mono hb.size)
  replace RL2 := hd ((RL2.out.below hb (Nat.le_refl _)).mono hb.size)
  replace RG2 := hd ((RG2.out.below hb (Nat.le_refl _)).mono hb.size)
  clear hb
  have hZ := cells12 HQ.out
  obtain ⟨k0, k1, k2, k3, k4, k5, k6, k7, k8, k9, k10, k11⟩ := hZ
  go_wp2_with fail
  refine (short_any nm0 st0 A0 B0 bs0.length c0 gs0.length d0 _).mono ?_
  rw [S0.out]
  rintro e z1 ⟨rfl, hb⟩
  replace HQ := hd ((hb.block _ (blk_lt HQ.out)).trans HQ.out)
  replace HB := hd (HB.out.trans (hb.mono HB.out.size))
  replace RL0 := hd ((RL0.out.below hb (Nat.le_refl _)).mono hb.size)
  replace RG0 := hd ((RG0.out.below hb (Nat.le_refl _)).mono hb.size)
  replace RL1 := hd ((RL1.out.below hb (Nat.le_refl _)).mono hb.size)
  replace RG1 := hd ((RG1.out.below hb (Nat.le_refl _)).mono hb.size)
  replace RL2 := hd ((RL2.out.below hb (Nat.le_refl _)).mono hb.size)
  replace RG2 := hd ((RG2.out.below hb (Nat.le_refl _)).mono hb.size)
  clear hb
  clear k0 k1 k2 k3 k4 k5 k6 k7 k8 k9 k10 k11
  have hZ := cells12 HQ.out
  obtain ⟨k0, k1, k2, k3, k4, k5, k6, k7, k8, k9, k10, k11⟩ := hZ
  go_wp2_with fail
  refine (short_any nm1 st0 A1 B1 bs1.length c1 gs1.length d1 _).mono ?_
  rw [S1.out]
  rintro e z2 ⟨rfl, hb⟩
  replace HQ := hd ((hb.block _ (blk_lt HQ.out)).trans HQ.out)
  replace HB := hd (HB.out.trans (hb.mono HB.out.size))
  replace RL0 := hd ((RL0.out.below hb (Nat.le_refl _)).mono hb.size)
  replace RG0 := hd ((RG0.out.below hb (Nat.le_refl _)).mono hb.size)
  replace RL1 := hd ((RL1.out.below hb (Nat.le_refl _)).mono hb.size)
  replace RG1 := hd ((RG1.out.below hb (Nat.le_refl _)).mono hb.size)
  replace RL2 := hd ((RL2.out.below hb (Nat.le_refl _)).mono hb.size)
  replace RG2 := hd ((RG2.out.below hb (Nat.le_refl _)).mono hb.size)
  clear hb
  clear k0 k1 k2 k3 k4 k5 k6 k7 k8 k9 k10 k11
  have hZ := cells12 HQ.out
  obtain ⟨k0, k1, k2, k3, k4, k5, k6, k7, k8, k9, k10, k11⟩ := hZ
  go_wp2_with fail
  refine (short_any nm2 st2 A2 B2 bs2.length c2 gs2.length d2 _).mono ?_
  rw [S2.out]
  rintro e z3 ⟨rfl, hb⟩
  replace HQ := hd ((hb.block _ (blk_lt HQ.out)).trans HQ.out)
  replace HB := hd (HB.out.trans (hb.mono HB.out.size))
  replace RL0 := hd ((RL0.out.below hb (Nat.le_refl _)).mono hb.size)
  replace RG0 := hd ((RG0.out.below hb (Nat.le_refl _)).mono hb.size)
  replace RL1 := hd ((RL1.out.below hb (Nat.le_refl _)).mono hb.size)
  replace RG1 := hd ((RG1.out.below hb (Nat.le_refl _)).mono hb.size)
  replace RL2 := hd ((RL2.out.below hb (Nat.le_refl _)).mono hb.size)
  replace RG2 := hd ((RG2.out.below hb (Nat.le_refl _)).mono hb.size)
  clear hb
  clear k0 k1 k2 k3 k4 k5 k6 k7 k8 k9 k10 k11
  have hZ := cells12 HQ.out
  obtain ⟨k0, k1, k2, k3, k4, k5, k6, k7, k8, k9, k10, k11⟩ := hZ
  go_wp2_with fail
  clear k0 k1 k2 k3 k4 k5 k6 k7 k8 k9 k10 k11
  have CX0 := hd (fun (X : World) (hbx : Below z3.heap.size z3 X) => CR0.out X _ _ ((RL0.out.below hbx (Nat.le_refl _)).mono hbx.size) ((RG0.out.below hbx (Nat.le_refl _)).mono hbx.size))
  have CX1 := hd (fun (X : World) (hbx : Below z3.heap.size z3 X) => CR1.out X _ _ ((RL1.out.below hbx (Nat.le_refl _)).mono hbx.size) ((RG1.out.below hbx (Nat.le_refl _)).mono hbx.size))
  have CX2 := hd (fun (X : World) (hbx : Below z3.heap.size z3 X) => CR2.out X _ _ ((RL2.out.below hbx (Nat.le_refl _)).mono hbx.size) ((RG2.out.below hbx (Nat.le_refl _)).mono hbx.size))
  go_loopw [54] (fun s54 wr => ∃ k : Nat, k ≤ 2 ∧ s54 = .int .i64 k ∧ Hid (Below z3.heap.size z3 wr)) (fun s54 _ => 3 - (intOf s54).toNat)
  case atStart => exact ⟨0, by omega, rfl, hd (Below.refl _ _)⟩
  case round =>
    obtain ⟨k, hk, rfl, HJ⟩ := hrel
    rcases (show k = 0 ∨ k = 1 ∨ k = 2 by omega) with rfl | rfl | rfl
    · clear hk
      have hix := idx3m0
      have HJ2 := hd (HJ.out.alloc HJ.out.size (Obj.cells #[.string nm0, .int .i64 st0, .slice A0 bs0.length c0, .slice B0 gs0.length d0] 25))
      go_wp2_with fail
      refine (CX0.out _ HJ2.out).mono ?_
      rintro e w2 ⟨rfl, hb⟩
      have hbx := hb.block wr.heap.size (by simp)
      have hbo := hbx.trans (blk_new wr #[.string nm0, .int .i64 st0, .slice A0 bs0.length c0, .slice B0 gs0.length d0] 25)
      have hZ := cells4 hbo
      obtain ⟨l0, l1, l2, l3⟩ := hZ
      have HJ3 := hd (HJ2.out.trans (hb.mono HJ2.out.size))
      have hZ := cells12 ((HJ3.out.block _ (blk_lt HQ.out)).trans HQ.out)
      obtain ⟨k0, k1, k2, k3, k4, k5, k6, k7, k8, k9, k10, k11⟩ := hZ
      clear hbx hbo hb
      go_wp2
      go_roundw
      case rel => exact ⟨0 + 1, by omega, rfl, HJ3⟩
      case measure => simp [intOf]
    · clear hk
      have hix := idx3m1
      have HJ2 := hd (HJ.out.alloc HJ.out.size (Obj.cells #[.string nm1, .int .i64 st0, .slice A1 bs1.length c1, .slice B1 gs1.length d1] 25))
      go_wp2_with fail
      refine (CX1.out _ HJ2.out).mono ?_
      rintro e w2 ⟨rfl, hb⟩
      have hbx := hb.block wr.heap.size (by simp)
      have hbo := hbx.trans (blk_new wr #[.string nm1, .int .i64 st0, .slice A1 bs1.length c1, .slice B1 gs1.length d1] 25)
      have hZ := cells4 hbo
      obtain ⟨l0, l1, l2, l3⟩ := hZ
      have HJ3 := hd (HJ2.out.trans (hb.mono HJ2.out.size))
      have hZ := cells12 ((HJ3.out.block _ (blk_lt HQ.out)).trans HQ.out)
      obtain ⟨k0, k1, k2, k3, k4, k5, k6, k7, k8, k9, k10, k11⟩ := hZ
      clear hbx hbo hb
      have hln : (bs1.length : Int) = (bs0.length : Int) := by have := HN1.out; omega
      go_wp2
      go_roundw
      case rel => exact ⟨1 + 1, by omega, rfl, HJ3⟩
      case measure => simp [intOf]
    · clear hk
      have hix := idx3m2
      have HJ2 := hd (HJ.out.alloc HJ.out.size (Obj.cells #[.string nm2, .int .i64 st2, .slice A2 bs2.length c2, .slice B2 gs2.length d2] 25))
      go_wp2_with fail
      refine (CX2.out _ HJ2.out).mono ?_
      rintro e w2 ⟨rfl, hb⟩
      have hbx := hb.block wr.heap.size (by simp)
      have hbo := hbx.trans (blk_new wr #[.string nm2, .int .i64 st2, .slice A2 bs2.length c2, .slice B2 gs2.length d2] 25)
      have hZ := cells4 hbo
      obtain ⟨l0, l1, l2, l3⟩ := hZ
      have HJ3 := hd (HJ2.out.trans (hb.mono HJ2.out.size))
      have hZ := cells12 ((HJ3.out.block _ (blk_lt HQ.out)).trans HQ.out)
      obtain ⟨k0, k1, k2, k3, k4, k5, k6, k7, k8, k9, k10, k11⟩ := hZ
      clear hbx hbo hb
      have hE := HE.out
      go_wp2
      go_returns
      exact ⟨rfl, HB.out.trans (HJ3.out.mono HB.out.size)⟩
set_option maxRecDepth 1000000 in
set_option maxHeartbeats 8000000 in
theorem mid_bad2N (HA : Hid Awake) (nm0 nm1 nm2 : ByteArray) (st0 tol : Int) (A0 B0 A1 B1 A2 B2 : Option Addr) (c0 d0 c1 d1 c2 d2 : Nat) (bs0 bs1 bs2 : List Nat) (gs0 gs1 gs2 : List (Int × Int)) (w : World)
    (S0 : Hid (shortR nm0.size bs0.length gs0.length = true)) (S1 : Hid (shortR nm1.size bs1.length gs1.length = true)) (S2 : Hid (shortR nm2.size bs2.length gs2.length = true)) (HL0 : Hid (Rd w w.heap.size (.slice A0 bs0.length c0) bs0.length (flc bs0))) (HG0 : Hid (Rd w w.heap.size (.slice B0 gs0.length d0) gs0.length (spc gs0))) (CR0 : Hid (∀ (X : World) (lv gv : Value), Rd X X.heap.size lv bs0.length (flc bs0) → Rd X X.heap.size gv gs0.length (spc gs0) → Calls Tryz.prog 7 #[.agg #[.string nm0, .int .i64 st0, lv, gv]] X fun e w' => e = .returned (.int .i64 0) ∧ Below X.heap.size X w')) (HL1 : Hid (Rd w w.heap.size (.slice A1 bs1.length c1) bs1.length (flc bs1))) (HG1 : Hid (Rd w w.heap.size (.slice B1 gs1.length d1) gs1.length (spc gs1))) (CR1 : Hid (∀ (X : World) (lv gv : Value), Rd X X.heap.size lv bs1.length (flc bs1) → Rd X X.heap.size gv gs1.length (spc gs1) → Calls Tryz.prog 7 #[.agg #[.string nm1, .int .i64 st0, lv, gv]] X fun e w' => e = .returned (.int .i64 0) ∧ Below X.heap.size X w')) (HN1 : Hid (bs1.length = bs0.length)) (HL2 : Hid (Rd w w.heap.size (.slice A2 bs2.length c2) bs2.length (flc bs2))) (HG2 : Hid (Rd w w.heap.size (.slice B2 gs2.length d2) gs2.length (spc gs2))) (CR2 : Hid (∀ (X : World) (lv gv : Value), Rd X X.heap.size lv bs2.length (flc bs2) → Rd X X.heap.size gv gs2.length (spc gs2) → Calls Tryz.prog 7 #[.agg #[.string nm2, .int .i64 st0, lv, gv]] X fun e w' => e = .returned (.int .i64 0) ∧ Below X.heap.size X w')) (HE : Hid (¬ bs2.length = bs0.length)) :
    Calls Tryz.prog 3 #[.agg #[.string nm0, .int .i64 st0, .slice A0 bs0.length c0, .slice B0 gs0.length d0, .string nm1, .int .i64 st0, .slice A1 bs1.length c1, .slice B1 gs1.length d1, .string nm2, .int .i64 st0, .slice A2 bs2.length c2, .slice B2 gs2.length d2], .int .u8 tol] w fun e w' => e = .returned (.bool true) ∧ Below w.heap.size w w' := by
  have hb1 := (Below.refl w.heap.size w).alloc (Nat.le_refl _) (Obj.cells #[.string nm0, .int .i64 st0, .slice A0 bs0.length c0, .slice B0 gs0.length d0, .string nm1, .int .i64 st0, .slice A1 bs1.length c1, .slice B1 gs1.length d1, .string nm2, .int .i64 st0, .slice A2 bs2.length c2, .slice B2 gs2.length d2] 26)
  have HQ := hd (show (w.alloc (Obj.cells #[.string nm0, .int .i64 st0, .slice A0 bs0.length c0, .slice B0 gs0.length d0, .string nm1, .int .i64 st0, .slice A1 bs1.length c1, .slice B1 gs1.length d1, .string nm2, .int .i64 st0, .slice A2 bs2.length c2, .slice B2 gs2.length d2] 26)).heap[w.heap.size]? = some (.cells #[.string nm0, .int .i64 st0, .slice A0 bs0.length c0, .slice B0 gs0.length d0, .string nm1, .int .i64 st0, .slice A1 bs1.length c1, .slice B1 gs1.length d1, .string nm2, .int .i64 st0, .slice A2 bs2.length c2, .slice B2 gs2.length d2] 26 (0, 0)) from blk_new _ _ _)
  have HB := hd hb1
  have RL0 := hd ((HL0.out.below hb1 (Nat.le_refl _)).mono hb1.size)
  have RG0 := hd ((HG0.out.below hb1 (Nat.le_refl _)).mono hb1.size)
  have RL1 := hd ((HL1.out.below hb1 (Nat.le_refl _)).mono hb1.size)
  have RG1 := hd ((HG1.out.below hb1 (Nat.le_refl _)).mono hb1.size)
  have RL2 := hd ((HL2.out.below hb1 (Nat.le_refl _)).mono hb1.size)
  have RG2 := hd ((HG2.out.below hb1 (Nat.le_refl _)).mono hb1.size)
  clear hb1
  go_enter Tryz.func3, Tryz.ntmps3
  go_wp2_with fail
  generalize (w.alloc (Obj.cells #[.string nm0, .int .i64 st0, .slice A0 bs0.length c0, .slice B0 gs0.length d0, .string nm1, .int .i64 st0, .slice A1 bs1.length c1, .slice B1 gs1.length d1, .string nm2, .int .i64 st0, .slice A2 bs2.length c2, .slice B2 gs2.length d2] 26)) = W1 at *
  refine (HA.out _).mono ?_
  rintro e z0 ⟨rfl, hb⟩
  replace HQ := hd ((hb.block _ (blk_lt HQ.out)).trans HQ.out)
  replace HB := hd (HB.out.trans (hb.mono HB.out.size))
  replace RL0 := hd ((RL0.out.below hb (Nat.le_refl _)).mono hb.size)
  replace RG0 := hd ((RG0.out.below hb (Nat.le_refl _)).mono hb.size)
  replace RL1 := hd ((RL1.out.below hb (Nat.le_refl _)).mono hb.size)
  replace RG1 := hd ((RG1.out.below hb (Nat.le_refl _)).mono hb.size)
  replace RL2 := hd ((RL2.out.below hb (Nat.le_refl _)).mono hb.size)
  replace RG2 := hd ((RG2.out.below hb (Nat.le_refl _)).mono hb.size)
  clear hb
  have hZ := cells12 HQ.out
  obtain ⟨k0, k1, k2, k3, k4, k5, k6, k7, k8, k9, k10, k11⟩ := hZ
  go_wp2_with fail
  refine (short_any nm0 st0 A0 B0 bs0.length c0 gs0.length d0 _).mono ?_
  rw [S0.out]
  rintro e z1 ⟨rfl, hb⟩
  replace HQ := hd ((hb.block _ (blk_lt HQ.out)).trans HQ.out)
  replace HB := hd (HB.out.trans (hb.mono HB.out.size))
  replace RL0 := hd ((RL0.out.below hb (Nat.le_refl _)).mono hb.size)
  replace RG0 := hd ((RG0.out.below hb (Nat.le_refl _)).mono hb.size)
  replace RL1 := hd ((RL1.out.below hb (Nat.le_refl _)).mono hb.size)
  replace RG1 := hd ((RG1.out.below hb (Nat.le_refl _)).mono hb.size)
  replace RL2 := hd ((RL2.out.below hb (Nat.le_refl _)).mono hb.size)
  replace RG2 := hd ((RG2.out.below hb (Nat.le_refl _)).mono hb.size)
  clear hb
  clear k0 k1 k2 k3 k4 k5 k6 k7 k8 k9 k10 k11
  have hZ := cells12 HQ.out
  obtain ⟨k0, k1, k2, k3, k4, k5, k6, k7, k8, k9, k10, k11⟩ := hZ
  go_wp2_with fail
  refine (short_any nm1 st0 A1 B1 bs1.length c1 gs1.length d1 _).mono ?_
  rw [S1.out]
  rintro e z2 ⟨rfl, hb⟩
  replace HQ := hd ((hb.block _ (blk_lt HQ.out)).trans HQ.out)
  replace HB := hd (HB.out.trans (hb.mono HB.out.size))
  replace RL0 := hd ((RL0.out.below hb (Nat.le_refl _)).mono hb.size)
  replace RG0 := hd ((RG0.out.below hb (Nat.le_refl _)).mono hb.size)
  replace RL1 := hd ((RL1.out.below hb (Nat.le_refl _)).mono hb.size)
  replace RG1 := hd ((RG1.out.below hb (Nat.le_refl _)).mono hb.size)
  replace RL2 := hd ((RL2.out.below hb (Nat.le_refl _)).mono hb.size)
  replace RG2 := hd ((RG2.out.below hb (Nat.le_refl _)).mono hb.size)
  clear hb
  clear k0 k1 k2 k3 k4 k5 k6 k7 k8 k9 k10 k11
  have hZ := cells12 HQ.out
  obtain ⟨k0, k1, k2, k3, k4, k5, k6, k7, k8, k9, k10, k11⟩ := hZ
  go_wp2_with fail
  refine (short_any nm2 st0 A2 B2 bs2.length c2 gs2.length d2 _).mono ?_
  rw [S2.out]
  rintro e z3 ⟨rfl, hb⟩
  replace HQ := hd ((hb.block _ (blk_lt HQ.out)).trans HQ.out)
  replace HB := hd (HB.out.trans (hb.mono HB.out.size))
  replace RL0 := hd ((RL0.out.below hb (Nat.le_refl _)).mono hb.size)
  replace RG0 := hd ((RG0.out.below hb (Nat.le_refl _)).mono hb.size)
  replace RL1 := hd ((RL1.out.below hb (Nat.le_refl _)).mono hb.size)
  replace RG1 := hd ((RG1.out.below hb (Nat.le_refl _)).mono hb.size)
  replace RL2 := hd ((RL2.out.below hb (Nat.le_refl _)).mono hb.size)
  replace RG2 := hd ((RG2.out.below hb (Nat.le_refl _)).mono hb.size)
  clear hb
  clear k0 k1 k2 k3 k4 k5 k6 k7 k8 k9 k10 k11
  have hZ := cells12 HQ.out
  obtain ⟨k0, k1, k2, k3, k4, k5, k6, k7, k8, k9, k10, k11⟩ := hZ
  go_wp2_with fail
  clear k0 k1 k2 k3 k4 k5 k6 k7 k8 k9 k10 k11
  have CX0 := hd (fun (X : World) (hbx : Below z3.heap.size z3 X) => CR0.out X _ _ ((RL0.out.below hbx (Nat.le_refl _)).mono hbx.size) ((RG0.out.below hbx (Nat.le_refl _)).mono hbx.size))
  have CX1 := hd (fun (X : World) (hbx : Below z3.heap.size z3 X) => CR1.out X _ _ ((RL1.out.below hbx (Nat.le_refl _)).mono hbx.size) ((RG1.out.below hbx (Nat.le_refl _)).mono hbx.size))
  have CX2 := hd (fun (X : World) (hbx : Below z3.heap.size z3 X) => CR2.out X _ _ ((RL2.out.below hbx (Nat.le_refl _)).mono hbx.size) ((RG2.out.below hbx (Nat.le_refl _)).mono hbx.size))
  go_loopw [54] (fun s54 wr => ∃ k : Nat, k ≤ 2 ∧ s54 = .int .i64 k ∧ Hid (Below z3.heap.size z3 wr)) (fun s54 _ => 3 - (intOf s54).toNat)
  case atStart => exact ⟨0, by omega, rfl, hd (Below.refl _ _)⟩
  case round =>
    obtain ⟨k, hk, rfl, HJ⟩ := hrel
    rcases (show k = 0 ∨ k = 1 ∨ k = 2 by omega) with rfl | rfl | rfl
    · clear hk
      have hix := idx3m0
      have HJ2 := hd (HJ.out.alloc HJ.out.size (Obj.cells #[.string nm0, .int .i64 st0, .slice A0 bs0.length c0, .slice B0 gs0.length d0] 25))
      go_wp2_with fail
      refine (CX0.out _ HJ2.out).mono ?_
      rintro e w2 ⟨rfl, hb⟩
      have hbx := hb.block wr.heap.size (by simp)
      have hbo := hbx.trans (blk_new wr #[.string nm0, .int .i64 st0, .slice A0 bs0.length c0, .slice B0 gs0.length d0] 25)
      have hZ := cells4 hbo
      obtain ⟨l0, l1, l2, l3⟩ := hZ
      have HJ3 := hd (HJ2.out.trans (hb.mono HJ2.out.size))
      have hZ := cells12 ((HJ3.out.block _ (blk_lt HQ.out)).trans HQ.out)
      obtain ⟨k0, k1, k2, k3, k4, k5, k6, k7, k8, k9, k10, k11⟩ := hZ
      clear hbx hbo hb
      go_wp2
      go_roundw
      case rel => exact ⟨0 + 1, by omega, rfl, HJ3⟩
      case measure => simp [intOf]
    · clear hk
      have hix := idx3m1
      have HJ2 := hd (HJ.out.alloc HJ.out.size (Obj.cells #[.string nm1, .int .i64 st0, .slice A1 bs1.length c1, .slice B1 gs1.length d1] 25))
      go_wp2_with fail
      refine (CX1.out _ HJ2.out).mono ?_
      rintro e w2 ⟨rfl, hb⟩
      have hbx := hb.block wr.heap.size (by simp)
      have hbo := hbx.trans (blk_new wr #[.string nm1, .int .i64 st0, .slice A1 bs1.length c1, .slice B1 gs1.length d1] 25)
      have hZ := cells4 hbo
      obtain ⟨l0, l1, l2, l3⟩ := hZ
      have HJ3 := hd (HJ2.out.trans (hb.mono HJ2.out.size))
      have hZ := cells12 ((HJ3.out.block _ (blk_lt HQ.out)).trans HQ.out)
      obtain ⟨k0, k1, k2, k3, k4, k5, k6, k7, k8, k9, k10, k11⟩ := hZ
      clear hbx hbo hb
      have hln : (bs1.length : Int) = (bs0.length : Int) := by have := HN1.out; omega
      go_wp2
      go_roundw
      case rel => exact ⟨1 + 1, by omega, rfl, HJ3⟩
      case measure => simp [intOf]
    · clear hk
      have hix := idx3m2
      have HJ2 := hd (HJ.out.alloc HJ.out.size (Obj.cells #[.string nm2, .int .i64 st0, .slice A2 bs2.length c2, .slice B2 gs2.length d2] 25))
      go_wp2_with fail
      refine (CX2.out _ HJ2.out).mono ?_
      rintro e w2 ⟨rfl, hb⟩
      have hbx := hb.block wr.heap.size (by simp)
      have hbo := hbx.trans (blk_new wr #[.string nm2, .int .i64 st0, .slice A2 bs2.length c2, .slice B2 gs2.length d2] 25)
      have hZ := cells4 hbo
      obtain ⟨l0, l1, l2, l3⟩ := hZ
      have HJ3 := hd (HJ2.out.trans (hb.mono HJ2.out.size))
      have hZ := cells12 ((HJ3.out.block _ (blk_lt HQ.out)).trans HQ.out)
      obtain ⟨k0, k1, k2, k3, k4, k5, k6, k7, k8, k9, k10, k11⟩ := hZ
      clear hbx hbo hb
      have hE := HE.out
      have hln : ¬ (bs2.length : Int) = (bs0.length : Int) := by omega
      clear hE
      go_wp2
      go_returns
      exact ⟨rfl, HB.out.trans (HJ3.out.mono HB.out.size)⟩
end Go.Proofs.YtibhjdmndlelaaaGreatDoor

namespace Go.Proofs.YtibhjdmndlelaaaGreatDoor
open Go.RowKit
attribute [local go_sem] Oper.semAt_some

theorem farF_self (b : List Nat) (g : List (Int × Int)) (tol : Int) (ht : 0 ≤ tol) : ∀ m, farF b b g g tol m = 0
  | 0 => rfl
  | m + 1 => by
    unfold farF
    rw [farF_self b g tol ht m, decide_eq_false (by omega)]
    simp
theorem both3 {b0 b1 b2 : List Nat} {g0 g1 g2 : List (Int × Int)} {n : Nat} (hn : b0.length = n ∧ b1.length = n ∧ b2.length = n) (hc : Can g0 ∧ Can g1 ∧ Can g2) (l0 : ∀ j, j < n → chkLev (b0.getD j 0) = 0) (l1 : ∀ j, j < n → chkLev (b1.getD j 0) = 0) (l2 : ∀ j, j < n → chkLev (b2.getD j 0) = 0) : Both (f3 b0 b1 b2) (f3 g0 g1 g2) n := by
  refine ⟨?_, ?_, ?_⟩
  · exact fun g hg => by rcases (show g = 0 ∨ g = 1 ∨ g = 2 by omega) with rfl | rfl | rfl; (exact hn.1); (exact hn.2.1); (exact hn.2.2)
  · exact fun g hg => by rcases (show g = 0 ∨ g = 1 ∨ g = 2 by omega) with rfl | rfl | rfl; (exact hc.1); (exact hc.2.1); (exact hc.2.2)
  · exact fun g hg => by rcases (show g = 0 ∨ g = 1 ∨ g = 2 by omega) with rfl | rfl | rfl; (exact l0); (exact l1); (exact l2)
set_option maxHeartbeats 1000000 in
theorem vote_f3 (nm0 nm1 nm2 : ByteArray) (st tol : Int) (b0 b1 b2 : List Nat) (g0 g1 g2 : List (Int × Int)) (n : Nat) (hn : b0.length = n ∧ b1.length = n ∧ b2.length = n) (V0 : Valid nm0 st b0 g0) (V1 : Valid nm1 st b1 g1) (V2 : Valid nm2 st b2 g2) (B : Both (f3 b0 b1 b2) (f3 g0 g1 g2) n) (ht : 0 ≤ tol ∧ tol ≤ 2048) (u0 v0 u1 v1 u2 v2 : Value) (X : World) (h0 : Rd X X.heap.size u0 b0.length (flc b0)) (k0 : Rd X X.heap.size v0 g0.length (spc g0)) (h1 : Rd X X.heap.size u1 b1.length (flc b1)) (k1 : Rd X X.heap.size v1 g1.length (spc g1)) (h2 : Rd X X.heap.size u2 b2.length (flc b2)) (k2 : Rd X X.heap.size v2 g2.length (spc g2)) :
    Calls Tryz.prog 8 #[.agg #[.string nm0, .int .i64 st, u0, v0, .string nm1, .int .i64 st, u1, v1, .string nm2, .int .i64 st, u2, v2], .int .i64 tol] X (GotV nm0 st (rCnt (f3 b0 b1 b2) (f3 g0 g1 g2) tol 0 n) (rCnt (f3 b0 b1 b2) (f3 g0 g1 g2) tol 1 n) (rCnt (f3 b0 b1 b2) (f3 g0 g1 g2) tol 2 n) (asmK (vLev (balF (f3 b0 b1 b2) (f3 g0 g1 g2) 3) tol n n) (vMrk (balF (f3 b0 b1 b2) (f3 g0 g1 g2) 3) tol n n) n) (strF (misK (vMrk (balF (f3 b0 b1 b2) (f3 g0 g1 g2) 3) tol n n) n n) n) X) := by
  refine (vote_any (f3 nm0 nm1 nm2) (fun _ => st) (f3 u0 u1 u2) (f3 v0 v1 v2) (f3 b0 b1 b2) (f3 g0 g1 g2) tol X (fun g hg => by rcases (show g = 0 ∨ g = 1 ∨ g = 2 by omega) with rfl | rfl | rfl; (exact h0); (exact h1); (exact h2)) (fun g hg => by rcases (show g = 0 ∨ g = 1 ∨ g = 2 by omega) with rfl | rfl | rfl; (exact k0); (exact k1); (exact k2)) (fun g hg => by rcases (show g = 0 ∨ g = 1 ∨ g = 2 by omega) with rfl | rfl | rfl; (exact V0); (exact V1); (exact V2)) ?_ (fun _ _ => rfl) ht).mono ?_
  · intro g hg; rw [B.len g hg, B.len 0 (by omega)]
  · rintro e w' ⟨lv', gv', rfl, h1, h2, h3⟩
    have e0 : ((f3 b0 b1 b2) 0).length = n := hn.1
    rw [e0] at h1 h2
    rw [e0, B.cnt tol (by omega) _ (Nat.le_refl _), B.cnt tol (by omega) _ (Nat.le_refl _), B.cnt tol (by omega) _ (Nat.le_refl _)]
    exact ⟨lv', gv', rfl, by rw [asmK_len, vLev_len]; exact h1, h2, h3⟩

set_option maxHeartbeats 2000000 in
theorem mid_all (HA : Hid Awake) (nm0 nm1 nm2 : ByteArray) (st0 st1 st2 tol : Int) (lv0 gv0 : Value) (lv1 gv1 : Value) (lv2 gv2 : Value) (bs0 bs1 bs2 : List Nat) (gs0 gs1 gs2 : List (Int × Int)) (w : World) (hl0 : Rd w w.heap.size lv0 bs0.length (flc bs0)) (hg0 : Rd w w.heap.size gv0 gs0.length (spc gs0)) (fl0 : Full lv0) (fg0 : Full gv0) (hs0 : nm0.size ≤ maxLen) (hl1 : Rd w w.heap.size lv1 bs1.length (flc bs1)) (hg1 : Rd w w.heap.size gv1 gs1.length (spc gs1)) (fl1 : Full lv1) (fg1 : Full gv1) (hs1 : nm1.size ≤ maxLen) (hl2 : Rd w w.heap.size lv2 bs2.length (flc bs2)) (hg2 : Rd w w.heap.size gv2 gs2.length (spc gs2)) (fl2 : Full lv2) (fg2 : Full gv2) (hs2 : nm2.size ≤ maxLen) (ht : 0 ≤ tol ∧ tol ≤ 255) :
    Calls Tryz.prog 3 #[.agg #[.string nm0, .int .i64 st0, lv0, gv0, .string nm1, .int .i64 st1, lv1, gv1, .string nm2, .int .i64 st2, lv2, gv2], .int .u8 tol] w fun e w' => e = .returned (.bool true) ∧ Below w.heap.size w w' := by
  obtain ⟨A0, c0, rfl, -⟩ := id hl0
  obtain ⟨B0, d0, rfl, -⟩ := id hg0
  obtain ⟨A1, c1, rfl, -⟩ := id hl1
  obtain ⟨B1, d1, rfl, -⟩ := id hg1
  obtain ⟨A2, c2, rfl, -⟩ := id hl2
  obtain ⟨B2, d2, rfl, -⟩ := id hg2
  cases h0 : shortR nm0.size bs0.length gs0.length
  · exact mid_long1 HA nm0 nm1 nm2 st0 st1 st2 tol A0 B0 A1 B1 A2 B2 c0 d0 c1 d1 c2 d2 bs0 bs1 bs2 gs0 gs1 gs2 w (hd h0)
  cases h1 : shortR nm1.size bs1.length gs1.length
  · exact mid_long2 HA nm0 nm1 nm2 st0 st1 st2 tol A0 B0 A1 B1 A2 B2 c0 d0 c1 d1 c2 d2 bs0 bs1 bs2 gs0 gs1 gs2 w (hd h0) (hd h1)
  cases h2 : shortR nm2.size bs2.length gs2.length
  · exact mid_long3 HA nm0 nm1 nm2 st0 st1 st2 tol A0 B0 A1 B1 A2 B2 c0 d0 c1 d1 c2 d2 bs0 bs1 bs2 gs0 gs1 gs2 w (hd h0) (hd h1) (hd h2)
  by_cases e0 : chkRec nm0 st0 bs0 gs0 = 0
  rotate_left
  · exact mid_bad0E HA nm0 nm1 nm2 _ st0 st1 st2 tol A0 B0 A1 B1 A2 B2 c0 d0 c1 d1 c2 d2 bs0 bs1 bs2 gs0 gs1 gs2 w (hd h0) (hd h1) (hd h2)  (hd hl0) (hd hg0) (hd fun X lv gv h h' => refRec_any nm0 st0 lv gv bs0 gs0 X h h' hs0) (hd (by simpa using e0))
  by_cases e1 : chkRec nm1 st1 bs1 gs1 = 0
  rotate_left
  · exact mid_bad1E HA nm0 nm1 nm2 _ st0 st1 st2 tol A0 B0 A1 B1 A2 B2 c0 d0 c1 d1 c2 d2 bs0 bs1 bs2 gs0 gs1 gs2 w (hd h0) (hd h1) (hd h2) (hd hl0) (hd hg0) (hd fun X lv gv h h' => (refRec_any nm0 st0 lv gv bs0 gs0 X h h' hs0).mono fun e w' ⟨he, hb⟩ => ⟨by rw [he, e0], hb⟩) (hd hl1) (hd hg1) (hd fun X lv gv h h' => refRec_any nm1 st1 lv gv bs1 gs1 X h h' hs1) (hd (by simpa using e1))
  by_cases q1 : st1 = st0
  rotate_left
  · exact mid_bad1S HA nm0 nm1 nm2 st0 st1 st2 tol A0 B0 A1 B1 A2 B2 c0 d0 c1 d1 c2 d2 bs0 bs1 bs2 gs0 gs1 gs2 w (hd h0) (hd h1) (hd h2) (hd hl0) (hd hg0) (hd fun X lv gv h h' => (refRec_any nm0 st0 lv gv bs0 gs0 X h h' hs0).mono fun e w' ⟨he, hb⟩ => ⟨by rw [he, e0], hb⟩) (hd hl1) (hd hg1) (hd fun X lv gv h h' => (refRec_any nm1 st1 lv gv bs1 gs1 X h h' hs1).mono fun e w' ⟨he, hb⟩ => ⟨by rw [he, e1], hb⟩) (hd q1)
  rw [q1] at e1 ⊢
  clear q1
  by_cases n1 : bs1.length = bs0.length
  rotate_left
  · exact mid_bad1N HA nm0 nm1 nm2 st0 st2 tol A0 B0 A1 B1 A2 B2 c0 d0 c1 d1 c2 d2 bs0 bs1 bs2 gs0 gs1 gs2 w (hd h0) (hd h1) (hd h2) (hd hl0) (hd hg0) (hd fun X lv gv h h' => (refRec_any nm0 st0 lv gv bs0 gs0 X h h' hs0).mono fun e w' ⟨he, hb⟩ => ⟨by rw [he, e0], hb⟩) (hd hl1) (hd hg1) (hd fun X lv gv h h' => (refRec_any nm1 st0 lv gv bs1 gs1 X h h' hs1).mono fun e w' ⟨he, hb⟩ => ⟨by rw [he, e1], hb⟩) (hd n1)
  by_cases e2 : chkRec nm2 st2 bs2 gs2 = 0
  rotate_left
  · exact mid_bad2E HA nm0 nm1 nm2 _ st0 st2 tol A0 B0 A1 B1 A2 B2 c0 d0 c1 d1 c2 d2 bs0 bs1 bs2 gs0 gs1 gs2 w (hd h0) (hd h1) (hd h2) (hd hl0) (hd hg0) (hd fun X lv gv h h' => (refRec_any nm0 st0 lv gv bs0 gs0 X h h' hs0).mono fun e w' ⟨he, hb⟩ => ⟨by rw [he, e0], hb⟩) (hd hl1) (hd hg1) (hd fun X lv gv h h' => (refRec_any nm1 st0 lv gv bs1 gs1 X h h' hs1).mono fun e w' ⟨he, hb⟩ => ⟨by rw [he, e1], hb⟩) (hd n1) (hd hl2) (hd hg2) (hd fun X lv gv h h' => refRec_any nm2 st2 lv gv bs2 gs2 X h h' hs2) (hd (by simpa using e2))
  by_cases q2 : st2 = st0
  rotate_left
  · exact mid_bad2S HA nm0 nm1 nm2 st0 st2 tol A0 B0 A1 B1 A2 B2 c0 d0 c1 d1 c2 d2 bs0 bs1 bs2 gs0 gs1 gs2 w (hd h0) (hd h1) (hd h2) (hd hl0) (hd hg0) (hd fun X lv gv h h' => (refRec_any nm0 st0 lv gv bs0 gs0 X h h' hs0).mono fun e w' ⟨he, hb⟩ => ⟨by rw [he, e0], hb⟩) (hd hl1) (hd hg1) (hd fun X lv gv h h' => (refRec_any nm1 st0 lv gv bs1 gs1 X h h' hs1).mono fun e w' ⟨he, hb⟩ => ⟨by rw [he, e1], hb⟩) (hd n1) (hd hl2) (hd hg2) (hd fun X lv gv h h' => (refRec_any nm2 st2 lv gv bs2 gs2 X h h' hs2).mono fun e w' ⟨he, hb⟩ => ⟨by rw [he, e2], hb⟩) (hd q2)
  rw [q2] at e2 ⊢
  clear q2
  by_cases n2 : bs2.length = bs0.length
  rotate_left
  · exact mid_bad2N HA nm0 nm1 nm2 st0 tol A0 B0 A1 B1 A2 B2 c0 d0 c1 d1 c2 d2 bs0 bs1 bs2 gs0 gs1 gs2 w (hd h0) (hd h1) (hd h2) (hd hl0) (hd hg0) (hd fun X lv gv h h' => (refRec_any nm0 st0 lv gv bs0 gs0 X h h' hs0).mono fun e w' ⟨he, hb⟩ => ⟨by rw [he, e0], hb⟩) (hd hl1) (hd hg1) (hd fun X lv gv h h' => (refRec_any nm1 st0 lv gv bs1 gs1 X h h' hs1).mono fun e w' ⟨he, hb⟩ => ⟨by rw [he, e1], hb⟩) (hd n1) (hd hl2) (hd hg2) (hd fun X lv gv h h' => (refRec_any nm2 st0 lv gv bs2 gs2 X h h' hs2).mono fun e w' ⟨he, hb⟩ => ⟨by rw [he, e2], hb⟩) (hd n2)
  obtain ⟨V0, C0, l0⟩ := valid_of e0 hs0
  have m0 := V0.most
  have a0 := (chkSpans_ok gs0 V0.spans).1
  obtain ⟨V1, C1, l1⟩ := valid_of e1 hs1
  have m1 := V1.most
  have a1 := (chkSpans_ok gs1 V1.spans).1
  obtain ⟨V2, C2, l2⟩ := valid_of e2 hs2
  have m2 := V2.most
  have a2 := (chkSpans_ok gs2 V2.spans).1
  have l1' : ∀ i, i < bs0.length → chkLev (bs1.getD i 0) = 0 := fun i hi => l1 i (by omega)
  have l2' : ∀ i, i < bs0.length → chkLev (bs2.getD i 0) = 0 := fun i hi => l2 i (by omega)
  have BV : Both (f3 bs0 bs1 bs2) (f3 gs0 gs1 gs2) bs0.length := both3 ⟨rfl, n1, n2⟩ ⟨C0, C1, C2⟩ l0 l1' l2'
  have BW : Both (f3 bs2 bs0 bs1) (f3 gs2 gs0 gs1) bs0.length := both3 ⟨n2, rfl, n1⟩ ⟨C2, C0, C1⟩ l2' l0 l1'
  have BS : Both (tri 2 bs0 bs0) (tri 2 gs0 gs0) bs0.length := tri_both rfl rfl C0 C0 l0 l0
  have BS' : Both (f3 bs0 bs0 bs0) (f3 gs0 gs0 gs0) bs0.length := both3 ⟨rfl, rfl, rfl⟩ ⟨C0, C0, C0⟩ l0 l0 l0
  obtain ⟨t0, t1, t2⟩ := cnt_turn bs0 bs1 bs2 gs0 gs1 gs2 tol bs0.length
  obtain ⟨hsm, hgm⟩ := mid_same BV BW tol (rv_turn bs0 bs1 bs2 gs0 gs1 gs2 tol)
  have z3 : (f3 bs0 bs0 bs0) = tri 2 bs0 bs0 := by funext k; rcases k with _ | _ | k <;> simp [f3, tri]
  have z4 : (f3 gs0 gs0 gs0) = tri 2 gs0 gs0 := by funext k; rcases k with _ | _ | k <;> simp [f3, tri]
  have r1 : rec1 nm0 st0 bs0.length = 0 := by
    have h := e0
    unfold chkRec at h
    by_cases hr : rec1 nm0 st0 bs0.length = 0
    · exact hr
    · rw [if_neg hr] at h; exact absurd h hr
  exact mid_walk HA nm0 nm1 nm2 st0 tol (rCnt (f3 bs0 bs1 bs2) (f3 gs0 gs1 gs2) tol 0 bs0.length) (rCnt (f3 bs0 bs1 bs2) (f3 gs0 gs1 gs2) tol 1 bs0.length) (rCnt (f3 bs0 bs1 bs2) (f3 gs0 gs1 gs2) tol 2 bs0.length) A0 B0 A1 B1 A2 B2 c0 d0 c1 d1 c2 d2 bs0 bs1 bs2 (asmK (vLev (balF (f3 bs0 bs1 bs2) (f3 gs0 gs1 gs2) 3) tol bs0.length bs0.length) (vMrk (balF (f3 bs0 bs1 bs2) (f3 gs0 gs1 gs2) 3) tol bs0.length bs0.length) bs0.length) (asmK (vLev (balF (f3 bs2 bs0 bs1) (f3 gs2 gs0 gs1) 3) tol bs0.length bs0.length) (vMrk (balF (f3 bs2 bs0 bs1) (f3 gs2 gs0 gs1) 3) tol bs0.length bs0.length) bs0.length) (asmK (vLev (balF (tri 2 bs0 bs0) (tri 2 gs0 gs0) 3) tol bs0.length bs0.length) (vMrk (balF (tri 2 bs0 bs0) (tri 2 gs0 gs0) 3) tol bs0.length bs0.length) bs0.length) (asmK (vLev (balF (f3 bs0 bs1 bs2) (f3 gs0 gs1 gs2) 3) 2048 bs0.length bs0.length) (vMrk (balF (f3 bs0 bs1 bs2) (f3 gs0 gs1 gs2) 3) 2048 bs0.length bs0.length) bs0.length) gs0 gs1 gs2 (strF (misK (vMrk (balF (f3 bs0 bs1 bs2) (f3 gs0 gs1 gs2) 3) tol bs0.length bs0.length) bs0.length bs0.length) bs0.length) (strF (misK (vMrk (balF (f3 bs0 bs1 bs2) (f3 gs0 gs1 gs2) 3) 2048 bs0.length bs0.length) bs0.length bs0.length) bs0.length) w
    (hd hl0) (hd hg0) (hd fl0) (hd fg0) (hd h0) (hd fun X lv gv h h' => (refRec_any nm0 st0 lv gv bs0 gs0 X h h' hs0).mono fun e w' ⟨he, hb⟩ => ⟨by rw [he, e0], hb⟩) (hd ⟨by omega, by omega⟩)
    (hd hl1) (hd hg1) (hd fl1) (hd fg1) (hd h1) (hd fun X lv gv h h' => (refRec_any nm1 st0 lv gv bs1 gs1 X h h' hs1).mono fun e w' ⟨he, hb⟩ => ⟨by rw [he, e1], hb⟩) (hd ⟨by omega, by omega⟩)
    (hd hl2) (hd hg2) (hd fl2) (hd fg2) (hd h2) (hd fun X lv gv h h' => (refRec_any nm2 st0 lv gv bs2 gs2 X h h' hs2).mono fun e w' ⟨he, hb⟩ => ⟨by rw [he, e2], hb⟩) (hd ⟨by omega, by omega⟩)
    (hd ⟨n1, n2⟩) (hd ht)
    (hd (fun X u0 v0 u1 v1 u2 v2 h0 k0 h1 k1 h2 k2 => by have hv := vote_f3 nm0 nm1 nm2 st0 tol bs0 bs1 bs2 gs0 gs1 gs2 bs0.length ⟨rfl, n1, n2⟩ V0 V1 V2 BV ⟨by omega, by omega⟩ u0 v0 u1 v1 u2 v2 X h0 k0 h1 k1 h2 k2;  skip; exact hv))
    (hd (fun X u0 v0 u1 v1 u2 v2 h0 k0 h1 k1 h2 k2 => by have hv := vote_f3 nm2 nm0 nm1 st0 tol bs2 bs0 bs1 gs2 gs0 gs1 bs0.length ⟨n2, rfl, n1⟩ V2 V0 V1 BW ⟨by omega, by omega⟩ u0 v0 u1 v1 u2 v2 X h0 k0 h1 k1 h2 k2; rw [t0, t1, t2, ← hgm] at hv; exact hv))
    (hd (fun X u0 v0 u1 v1 u2 v2 h0 k0 h1 k1 h2 k2 => by have hv := vote_f3 nm0 nm0 nm0 st0 tol bs0 bs0 bs0 gs0 gs0 gs0 bs0.length ⟨rfl, rfl, rfl⟩ V0 V0 V0 BS' ⟨by omega, by omega⟩ u0 v0 u1 v1 u2 v2 X h0 k0 h1 k1 h2 k2; rw [z3, z4, tri_cnt (.inr rfl) ht.1 0, tri_cnt (.inr rfl) ht.1 1, tri_cnt (.inr rfl) ht.1 2, farF_self _ _ _ ht.1, tri_gaps (.inr rfl) ht.1 BS V0 C0] at hv; exact hv))
    (hd (fun X u0 v0 u1 v1 u2 v2 h0 k0 h1 k1 h2 k2 => by have hv := vote_f3 nm0 nm1 nm2 st0 2048 bs0 bs1 bs2 gs0 gs1 gs2 bs0.length ⟨rfl, n1, n2⟩ V0 V1 V2 BV ⟨by omega, by omega⟩ u0 v0 u1 v1 u2 v2 X h0 k0 h1 k1 h2 k2; rw [cnt_never BV 0 (by omega) _ (Nat.le_refl _), cnt_never BV 1 (by omega) _ (Nat.le_refl _), cnt_never BV 2 (by omega) _ (Nat.le_refl _)] at hv; exact hv))
    (hd fun X lv gv h h' => (refRec_any nm0 st0 lv gv _ _ X h h' hs0).mono fun e w' ⟨he, hb⟩ => ⟨by rw [he, mid_chk BV tol nm0 st0 r1 (by omega)], hb⟩)
    (hd hsm) (hd (tri_same (.inr rfl) ht.1 BS V0 l0)) (hd (by rw [asmK_len, vLev_len]))
    (hd fun i hi => ⟨l0 i hi, l1' i hi, l2' i hi⟩)
    (hd fun i hi => ⟨(mid_lev BV tol i hi).1, (mid_lev BV tol i hi).2.1, mid_has BV tol i hi⟩)
    (hd ⟨rfl, rfl, rfl⟩)
end Go.Proofs.YtibhjdmndlelaaaGreatDoor

namespace Go.Proofs.YtibhjdmndlelaaaGreatDoor
open Go Go.ChangeShapes Go.WideShapes Go.ChangeAt Go.RowKit Go.Joins Go.Deep
open Go.ChangeMaps (open_string)
set_option linter.constructorNameAsVariable false

theorem okWide_arrA {P : Program} {W : World} {r : Reach} {b0 : Nat} {t e : TypeId} {n : Nat} {v : Value} (ht : P.underlying t = some (.array n e)) (h : Value.okWide P W r b0 t v) : ∃ cs, v = .agg cs ∧ cs.size = P.cellsOf t := by
  simp only [Value.okWide, ht] at h
  obtain ⟨cs, h1, h2, _⟩ := h
  exact ⟨cs, h1, h2⟩
theorem array12 {α : Type} {cs : Array α} (h : cs.size = 12) : ∃ c0 c1 c2 c3 c4 c5 c6 c7 c8 c9 c10 c11, cs = #[c0, c1, c2, c3, c4, c5, c6, c7, c8, c9, c10, c11] := by
  obtain ⟨l⟩ := cs
  match l, h with
  | [c0, c1, c2, c3, c4, c5, c6, c7, c8, c9, c10, c11], _ => exact ⟨c0, c1, c2, c3, c4, c5, c6, c7, c8, c9, c10, c11, rfl⟩
section
variable {H : Type} {enc : TypeId × Value → H} {P : Program} {w : World} {base : Nat} {spare : Nat → Bool} {held : Bool}
theorem trod_array34 {t e : TypeId} {fuel : Nat} {c0 c1 c2 c3 c4 c5 c6 c7 c8 c9 c10 c11 : Value} {x : DataW H × List MemPlace} (ht : P.underlying t = some (.array 3 e)) (hce : P.cellsOf e = 4)
    (h : DataW.trod enc P w base spare held fuel t [c0, c1, c2, c3, c4, c5, c6, c7, c8, c9, c10, c11] = some x) :
    ∃ y0 y1 y2 n, DataW.trod enc P w base spare held n e [c0, c1, c2, c3] = some y0 ∧ DataW.trod enc P w base spare held n e [c4, c5, c6, c7] = some y1 ∧ DataW.trod enc P w base spare held n e [c8, c9, c10, c11] = some y2 := by
  cases fuel with
  | zero => simp [DataW.trod] at h
  | succ n =>
    unfold DataW.trod at h
    rw [ht] at h
    have r3 : List.range 3 = [0, 1, 2] := rfl
    simp [r3, hce] at h
    obtain ⟨_, h⟩ := h
    cases h0 : DataW.trod enc P w base spare held n e [c0, c1, c2, c3] with
    | none => simp [h0] at h
    | some y0 =>
      cases h1 : DataW.trod enc P w base spare held n e [c4, c5, c6, c7] with
      | none => simp [h0, h1] at h
      | some y1 =>
        cases h2 : DataW.trod enc P w base spare held n e [c8, c9, c10, c11] with
        | none => simp [h0, h1, h2] at h
        | some y2 => exact ⟨y0, y1, y2, n, h0, h1, h2⟩
theorem open_rec4 {t : TypeId} {f0 f1 f2 f3 : Field} {fuel : Nat} {c0 c1 c2 c3 : Value} {x : DataW H × List MemPlace} (hs : P.underlying t = some (.struct #[f0, f1, f2, f3])) (hone : oneCellFields P #[f0, f1, f2, f3] = true)
    (h : DataW.trod enc P w base spare held fuel t [c0, c1, c2, c3] = some x) :
    ∃ (y0 y1 y2 y3 : DataW H × List MemPlace) (n : Nat), DataW.trod enc P w base spare held n f0.type [c0] = some y0 ∧ DataW.trod enc P w base spare held n f1.type [c1] = some y1 ∧ DataW.trod enc P w base spare held n f2.type [c2] = some y2 ∧ DataW.trod enc P w base spare held n f3.type [c3] = some y3 := by
  obtain ⟨y0, y1, y2, y3, n, hx, _, h0, h1, h2, h3⟩ := trod_struct4 hs h
  obtain ⟨o0, k0⟩ := hone_of hone 0 f0 rfl
  obtain ⟨o1, k1⟩ := hone_of hone 1 f1 rfl
  obtain ⟨o2, k2⟩ := hone_of hone 2 f2 rfl
  obtain ⟨o3, k3⟩ := hone_of hone 3 f3 rfl
  exact ⟨y0, y1, y2, y3, n, by simpa [o0, k0] using h0, by simpa [o1, k1] using h1, by simpa [o2, k2] using h2, by simpa [o3, k3] using h3⟩
end
theorem open_record {H : Type} {enc : TypeId × Value → H} {W : World} {fuel : Nat} {c0 c1 c2 c3 : Value} {x : DataW H × List MemPlace} (h : DataW.trod enc Tryz.prog W 0 (fun _ => true) true fuel 25 [c0, c1, c2, c3] = some x) :
    ∃ (nm : ByteArray) (st : Int) (bs : List Nat) (gs : List (Int × Int)), c0 = .string nm ∧ c1 = .int .i64 st ∧ nm.size ≤ maxLen ∧ Rd W W.heap.size c2 bs.length (flc bs) ∧ Full c2 ∧ Rd W W.heap.size c3 gs.length (spc gs) ∧ Full c3 := by
  obtain ⟨y0, y1, y2, y3, n, hy0, hy1, hy2, hy3⟩ := open_rec4 Tryz.underlying25 (by kernel_rfl) h
  obtain ⟨nm, k0, -, hs⟩ := DataW.trod_string Tryz.underlying9 hy0
  obtain ⟨st, k1, -⟩ := DataW.trod_int Tryz.underlying3 hy1
  obtain ⟨bs, hl, fl⟩ := open_levels hy2
  obtain ⟨gs, hg, fg⟩ := open_gaps hy3
  simp at k0 k1
  exact ⟨nm, st, bs, gs, k0, k1, hs, hl, fl, hg, fg⟩

set_option maxRecDepth 1000000 in
/-- The start that the door's own run leaves meets the row's condition on the listed variables. -/
theorem gaugeMiddle_met (os : Os) (args : Array Value) : laidMetH Tryz.prog Rows.gaugeMiddleRow.laid ((World.doorLaid Tryz.prog 24 os).forCall (fun _ _ => 0) ⟨#[], args, []⟩).memory :=
  laidMetH_of_parts3 (fuel := 8) (laidMet_of_run' 8 (by kernel_rfl) (by kernel_rfl)) (by kernel_rfl) (by kernel_rfl)

set_option maxRecDepth 1000000 in
theorem gaugeMiddle_lifted (os : Os) (started : os.Started) (H : Type) (enc : TypeId × Value → H) :
    ReturnsInHanded {} Tryz.checked os 3 .any (fun w args => (Rows.gaugeMiddleSpec.pre enc Tryz.prog Tryz.f3 [] false w args ∧ laidMetH Tryz.prog Rows.gaugeMiddleRow.laid w) ∧ sizedMet enc Tryz.prog Tryz.f3 (OpenSpec.ofChange Rows.gaugeMiddleSpec) false w args)
      (Rows.gaugeMiddleSpec.post enc Tryz.prog Tryz.f3 false true false false) := by
  refine returnsInHanded_of_change_and (C := Tryz.checked) (X := fun w _ => laidMetH Tryz.prog Rows.gaugeMiddleRow.laid w) (fun _ _ _ hh h => h.of_heap hh) own started (by kernel_rfl) Tryz.func3
    (ChangeSpec.witness_shaped (enc := enc) (C := Tryz.checked) (os := os) (X := fun w _ => laidMetH Tryz.prog Rows.gaugeMiddleRow.laid w) false (World.doorLaid Tryz.prog 24 os) #[.agg #[.string ⟨#[]⟩, .int .i64 0, .slice none 0 0, .slice none 0 0, .string ⟨#[]⟩, .int .i64 0, .slice none 0 0, .slice none 0 0, .string ⟨#[]⟩, .int .i64 0, .slice none 0 0, .slice none 0 0], .int .u8 0] 8 rfl (World.shaped_of_RefB (by kernel_rfl) (by kernel_rfl)) (by kernel_rfl) (by kernel_rfl) (by kernel_rfl) (gaugeMiddle_met os _)) ?_
  intro W base args ds gs before hval0 hW _ hsz hL _
  have hval : ∀ (j : Nat) t v, Tryz.f3.params[j]? = some t → args[j]? = some v → Value.okWide Tryz.prog W .any base t v := hval0
  have hW' := hW
  obtain ⟨p, q, hA0, hV, rfl, hfz, hnd⟩ := hW
  have hA : DataW.TrodAll enc Tryz.prog W 0 (fun _ => true) true Tryz.f3.params.toList args.toList ds p := hA0
  rw [Tryz.params3] at hA hval
  obtain ⟨rfl, rfl⟩ := trodVars_none hV
  obtain ⟨v0, v1, d0, d1, p0, p1, rfl, rfl, rfl, h0, h1⟩ := trodAll_two hA
  obtain ⟨cs, rfl, hcs⟩ := okWide_arrA Tryz.underlying26 (hval 0 26 v0 rfl rfl)
  obtain ⟨x0, x1, x2, x3, x4, x5, x6, x7, x8, x9, x10, x11, rfl⟩ := array12 (hcs.trans (show Tryz.prog.cellsOf 26 = 12 by kernel_rfl))
  obtain ⟨fuel, hf⟩ := h0
  obtain ⟨y0, y1, y2, n, g0, g1, g2⟩ := trod_array34 Tryz.underlying26 (by kernel_rfl) (show DataW.trod enc Tryz.prog W 0 (fun _ => true) true fuel 26 [x0, x1, x2, x3, x4, x5, x6, x7, x8, x9, x10, x11] = some (d0, p0) from hf)
  obtain ⟨nm0, st0, bs0, gs0, rfl, rfl, hs0, hl0, fl0, hg0, fg0⟩ := open_record g0
  obtain ⟨nm1, st1, bs1, gs1, rfl, rfl, hs1, hl1, fl1, hg1, fg1⟩ := open_record g1
  obtain ⟨nm2, st2, bs2, gs2, rfl, rfl, hs2, hl2, fl2, hg2, fg2⟩ := open_record g2
  obtain ⟨tol, rfl, rfl, rfl, wt⟩ := open_int Tryz.underlying5 (hval 1 5 v1 rfl rfl) h1
  refine (mid_all (hd awake_any) nm0 nm1 nm2 st0 st1 st2 tol x2 x3 x6 x7 x10 x11 bs0 bs1 bs2 gs0 gs1 gs2 W hl0 hg0 fl0 fg0 hs0 hl1 hg1 fl1 fg1 hs1 hl2 hg2 fl2 fg2 hs2 (bounds_u8 wt)).mono ?_
  rintro e W' ⟨rfl, hB⟩
  exact ⟨_, rfl, law_post rfl rfl rfl rfl rfl (fun t ht => by
    have hm : t ∈ [26, 5] := by simpa [Tryz.params3] using ht
    have hall : ([26, 5].all fun u => Tryz.prog.readableRec u && decide (u < Tryz.prog.types.size)) = true := by kernel_rfl
    simpa using List.all_eq_true.1 hall t hm) hW' hB⟩

set_option maxRecDepth 1000000 in
theorem gaugeMiddle_holds : Rows.GaugeMiddleSaid :=
  OpenClaim.holds_of_wide 3 Tryz.f3 rfl rfl rfl rfl rfl rfl rfl ⟨rfl, rfl, rfl, rfl, rfl⟩ rfl rfl rfl rfl rfl (by kernel_rfl) Tryz.func3 (by kernel_rfl)
    (of_decide_eq_true (by kernel_rfl)) (by unfold Func.isWrapper; first | (rw [if_pos (by decide +kernel)]; kernel_rfl) | (rw [if_neg (by decide +kernel)]; exact ⟨rfl, rfl⟩))
    (fun os started H enc _ => gaugeMiddle_lifted os started H enc)

set_option maxRecDepth 1000000 in
theorem gaugeMiddle_card : Rows.GaugeMiddleCardSaid :=
  Claim7.holds_tied_plain_at .later [] [.data, .data, .data] true (true, "30f1af2673b8bb9d08fa0c2d4fed60b9766b8c144cab8e87047abe3e8191d3d9") false
    gaugeMiddle_holds (fun _ h => by cases h) (by kernel_rfl) (fun _ h => by cases h) gaugeMiddle_row_tie rfl ⟨rfl, rfl⟩ (by kernel_rfl) rfl
    (fun f fn hf hfn => by
      obtain rfl : f = 3 := Option.some.inj ((show Tryz.prog.funcNamed "tideway/tidewaylaw01.GaugeMiddle" = some 3 by kernel_rfl).symm.trans hf) |>.symm
      obtain rfl : fn = Tryz.f3 := (Option.some.inj (Tryz.func3.symm.trans hfn)).symm
      exact ⟨by kernel_rfl, fun j t ht => by
        rw [Tryz.params3] at ht
        have hm : t ∈ [26, 5] := by simpa using Array.mem_of_getElem? ht
        have hall : ([26, 5].all fun u => !Tryz.prog.wantsStandIn u) = true := by kernel_rfl
        exact (show Tryz.prog.wantsStandIn t = false by simpa using List.all_eq_true.1 hall t hm)⟩)
    (by kernel_rfl)
end Go.Proofs.YtibhjdmndlelaaaGreatDoor
