/-
  The walk of GaugeMiddle, where all three records are taken. Conditions: written at it.
-/
import Derived.Test.YtibhjdmndlelaaaGreatDoorB3
import Derived.Test.YtibhjdmndlelaaaGreatDoorB4
import Derived.Test.YtibhjdmndlelaaaGreatDoorB5
import Derived.Test.YtibhjdmndlelaaaGreatDoorB6
import Derived.Test.YtibhjdmndlelaaaGreatDoorBA
import Derived.Test.YtibhjdmndlelaaaGreatDoorBB
import Derived.Test.YtibhjdmndlelaaaGreatDoorET
import Derived.Test.YtibhjdmndlelaaaGreatDoorQ4
import Derived.Test.YtibhjdmndlelaaaGreatDoorQS
namespace Go.Proofs.YtibhjdmndlelaaaGreatDoor
open Go.RowKit
attribute [local go_sem] Oper.semAt_some

theorem eqInt (d : Nat) (a b : Int) (w : World) : (Op.equalIn (d+1) 3 (.int .i64 a) (.int .i64 b)).run Tryz.prog w = .ok (a == b) w := by
  simp [Op.equalIn, run_underlying Tryz.underlying3]
theorem eq3g (d : Nat) (a b c : Int) (w : World) : (Op.equalIn (d + 2) 31 (.agg #[.int .i64 a, .int .i64 b, .int .i64 c]) (.agg #[.int .i64 a, .int .i64 b, .int .i64 c])).run Tryz.prog w = .ok true w := by
  have h1 := eqInt d a a
  have h2 := eqInt d b b
  have h3 := eqInt d c c
  simp only [beq_self_eq_true] at h1 h2 h3
  have z : ∀ w : World, (sizeOf 3).run Tryz.prog w = .ok 1 w := fun w => by kernel_rfl
  have p0 : ∀ (x y z : Value) (w : World), (part 3 #[x, y, z] 0).run Tryz.prog w = .ok x w := fun x y z w => by kernel_rfl
  have p1 : ∀ (x y z : Value) (w : World), (part 3 #[x, y, z] 1).run Tryz.prog w = .ok y w := fun x y z w => by kernel_rfl
  have p2 : ∀ (x y z : Value) (w : World), (part 3 #[x, y, z] 2).run Tryz.prog w = .ok z w := fun x y z w => by kernel_rfl
  rw [Op.equalIn]
  simp [run_underlying Tryz.underlying31, h1, h2, h3, z, p0, p1, p2, List.range'_succ]
theorem eq3i (a b c : Int) (w : World) : (Op.equalIn 10000 31 (.agg #[.int .i64 a, .int .i64 b, .int .i64 c]) (.agg #[.int .i64 a, .int .i64 b, .int .i64 c])).run Tryz.prog w = .ok true w := eq3g 9998 a b c w

set_option maxRecDepth 1000000 in
set_option maxHeartbeats 16000000 in
theorem mid_walk (HA : Hid Awake) (nm0 nm1 nm2 : ByteArray) (st tol a0 a1 a2 : Int) (A0 B0 A1 B1 A2 B2 : Option Addr) (c0 d0 c1 d1 c2 d2 : Nat) (bs0 bs1 bs2 XV XW XS XN : List Nat) (gs0 gs1 gs2 VG NG : List (Int × Int)) (w : World)
    (HL0 : Hid (Rd w w.heap.size (.slice A0 bs0.length c0) bs0.length (flc bs0))) (HG0 : Hid (Rd w w.heap.size (.slice B0 gs0.length d0) gs0.length (spc gs0))) (FL0 : Hid (Full (.slice A0 bs0.length c0))) (FG0 : Hid (Full (.slice B0 gs0.length d0))) (S0 : Hid (shortR nm0.size bs0.length gs0.length = true)) (CR0 : Hid (∀ (X : World) (lv gv : Value), Rd X X.heap.size lv bs0.length (flc bs0) → Rd X X.heap.size gv gs0.length (spc gs0) → Calls Tryz.prog 7 #[.agg #[.string nm0, .int .i64 st, lv, gv]] X fun e w' => e = .returned (.int .i64 0) ∧ Below X.heap.size X w')) (HN0 : Hid (bs0.length ≤ 100000 ∧ gs0.length ≤ 100000)) (HL1 : Hid (Rd w w.heap.size (.slice A1 bs1.length c1) bs1.length (flc bs1))) (HG1 : Hid (Rd w w.heap.size (.slice B1 gs1.length d1) gs1.length (spc gs1))) (FL1 : Hid (Full (.slice A1 bs1.length c1))) (FG1 : Hid (Full (.slice B1 gs1.length d1))) (S1 : Hid (shortR nm1.size bs1.length gs1.length = true)) (CR1 : Hid (∀ (X : World) (lv gv : Value), Rd X X.heap.size lv bs1.length (flc bs1) → Rd X X.heap.size gv gs1.length (spc gs1) → Calls Tryz.prog 7 #[.agg #[.string nm1, .int .i64 st, lv, gv]] X fun e w' => e = .returned (.int .i64 0) ∧ Below X.heap.size X w')) (HN1 : Hid (bs1.length ≤ 100000 ∧ gs1.length ≤ 100000)) (HL2 : Hid (Rd w w.heap.size (.slice A2 bs2.length c2) bs2.length (flc bs2))) (HG2 : Hid (Rd w w.heap.size (.slice B2 gs2.length d2) gs2.length (spc gs2))) (FL2 : Hid (Full (.slice A2 bs2.length c2))) (FG2 : Hid (Full (.slice B2 gs2.length d2))) (S2 : Hid (shortR nm2.size bs2.length gs2.length = true)) (CR2 : Hid (∀ (X : World) (lv gv : Value), Rd X X.heap.size lv bs2.length (flc bs2) → Rd X X.heap.size gv gs2.length (spc gs2) → Calls Tryz.prog 7 #[.agg #[.string nm2, .int .i64 st, lv, gv]] X fun e w' => e = .returned (.int .i64 0) ∧ Below X.heap.size X w')) (HN2 : Hid (bs2.length ≤ 100000 ∧ gs2.length ≤ 100000))
    (HE : Hid (bs1.length = bs0.length ∧ bs2.length = bs0.length)) (HT : Hid (0 ≤ tol ∧ tol ≤ 255))
    (GV9 : Hid (∀ (X : World) (u0 v0 u1 v1 u2 v2 : Value), Rd X X.heap.size u0 bs0.length (flc bs0) → Rd X X.heap.size v0 gs0.length (spc gs0) → Rd X X.heap.size u1 bs1.length (flc bs1) → Rd X X.heap.size v1 gs1.length (spc gs1) → Rd X X.heap.size u2 bs2.length (flc bs2) → Rd X X.heap.size v2 gs2.length (spc gs2) → Calls Tryz.prog 8 #[.agg #[.string nm0, .int .i64 st, u0, v0, .string nm1, .int .i64 st, u1, v1, .string nm2, .int .i64 st, u2, v2], .int .i64 tol] X (GotV nm0 st a0 a1 a2 XV VG X))) (GV10 : Hid (∀ (X : World) (u0 v0 u1 v1 u2 v2 : Value), Rd X X.heap.size u0 bs2.length (flc bs2) → Rd X X.heap.size v0 gs2.length (spc gs2) → Rd X X.heap.size u1 bs0.length (flc bs0) → Rd X X.heap.size v1 gs0.length (spc gs0) → Rd X X.heap.size u2 bs1.length (flc bs1) → Rd X X.heap.size v2 gs1.length (spc gs1) → Calls Tryz.prog 8 #[.agg #[.string nm2, .int .i64 st, u0, v0, .string nm0, .int .i64 st, u1, v1, .string nm1, .int .i64 st, u2, v2], .int .i64 tol] X (GotV nm2 st a2 a0 a1 XW VG X))) (GV11 : Hid (∀ (X : World) (u0 v0 u1 v1 u2 v2 : Value), Rd X X.heap.size u0 bs0.length (flc bs0) → Rd X X.heap.size v0 gs0.length (spc gs0) → Rd X X.heap.size u1 bs0.length (flc bs0) → Rd X X.heap.size v1 gs0.length (spc gs0) → Rd X X.heap.size u2 bs0.length (flc bs0) → Rd X X.heap.size v2 gs0.length (spc gs0) → Calls Tryz.prog 8 #[.agg #[.string nm0, .int .i64 st, u0, v0, .string nm0, .int .i64 st, u1, v1, .string nm0, .int .i64 st, u2, v2], .int .i64 tol] X (GotV nm0 st 0 0 0 XS gs0 X))) (GV12 : Hid (∀ (X : World) (u0 v0 u1 v1 u2 v2 : Value), Rd X X.heap.size u0 bs0.length (flc bs0) → Rd X X.heap.size v0 gs0.length (spc gs0) → Rd X X.heap.size u1 bs1.length (flc bs1) → Rd X X.heap.size v1 gs1.length (spc gs1) → Rd X X.heap.size u2 bs2.length (flc bs2) → Rd X X.heap.size v2 gs2.length (spc gs2) → Calls Tryz.prog 8 #[.agg #[.string nm0, .int .i64 st, u0, v0, .string nm1, .int .i64 st, u1, v1, .string nm2, .int .i64 st, u2, v2], .int .i64 2048] X (GotV nm0 st 0 0 0 XN NG X)))
    (CV : Hid (∀ (X : World) (lv gv : Value), Rd X X.heap.size lv XV.length (flc XV) → Rd X X.heap.size gv VG.length (spc VG) → Calls Tryz.prog 7 #[.agg #[.string nm0, .int .i64 st, lv, gv]] X fun e w' => e = .returned (.int .i64 0) ∧ Below X.heap.size X w'))
    (HVW : Hid (sameF feqL 0 XV XW = true)) (HS0 : Hid (sameF feqL 0 XS bs0 = true)) (HXV : Hid (XV.length = bs0.length))
    (HV : Hid (∀ i, i < bs0.length → chkLev (bs0.getD i 0) = 0 ∧ chkLev (bs1.getD i 0) = 0 ∧ chkLev (bs2.getD i 0) = 0))
    (HX1 : Hid (∀ i, i < bs0.length → chkLev (XV.getD i 0) = 0 ∧ ((rvI (f3 bs0 bs1 bs2) (f3 gs0 gs1 gs2) tol i).2 = true → s16 (XV.getD i 0) = (rvI (f3 bs0 bs1 bs2) (f3 gs0 gs1 gs2) tol i).1) ∧ hasL VG (i : Int) = !(rvI (f3 bs0 bs1 bs2) (f3 gs0 gs1 gs2) tol i).2))
    (HCN : Hid (rCnt (f3 bs0 bs1 bs2) (f3 gs0 gs1 gs2) tol 0 bs0.length = a0 ∧ rCnt (f3 bs0 bs1 bs2) (f3 gs0 gs1 gs2) tol 1 bs0.length = a1 ∧ rCnt (f3 bs0 bs1 bs2) (f3 gs0 gs1 gs2) tol 2 bs0.length = a2)) :
    Calls Tryz.prog 3 #[.agg #[.string nm0, .int .i64 st, .slice A0 bs0.length c0, .slice B0 gs0.length d0, .string nm1, .int .i64 st, .slice A1 bs1.length c1, .slice B1 gs1.length d1, .string nm2, .int .i64 st, .slice A2 bs2.length c2, .slice B2 gs2.length d2], .int .u8 tol] w fun e w' => e = .returned (.bool true) ∧ Below w.heap.size w w' := by
  have hb1 := (Below.refl w.heap.size w).alloc (Nat.le_refl _) (Obj.cells #[.string nm0, .int .i64 st, .slice A0 bs0.length c0, .slice B0 gs0.length d0, .string nm1, .int .i64 st, .slice A1 bs1.length c1, .slice B1 gs1.length d1, .string nm2, .int .i64 st, .slice A2 bs2.length c2, .slice B2 gs2.length d2] 26)
  have HQ := hd (show (w.alloc (Obj.cells #[.string nm0, .int .i64 st, .slice A0 bs0.length c0, .slice B0 gs0.length d0, .string nm1, .int .i64 st, .slice A1 bs1.length c1, .slice B1 gs1.length d1, .string nm2, .int .i64 st, .slice A2 bs2.length c2, .slice B2 gs2.length d2] 26)).heap[w.heap.size]? = some (.cells #[.string nm0, .int .i64 st, .slice A0 bs0.length c0, .slice B0 gs0.length d0, .string nm1, .int .i64 st, .slice A1 bs1.length c1, .slice B1 gs1.length d1, .string nm2, .int .i64 st, .slice A2 bs2.length c2, .slice B2 gs2.length d2] 26 (0, 0)) from blk_new _ _ _)
  have HB := hd hb1
  have RL0 := hd ((HL0.out.below hb1 (Nat.le_refl _)).mono hb1.size)
  have RG0 := hd ((HG0.out.below hb1 (Nat.le_refl _)).mono hb1.size)
  have RL1 := hd ((HL1.out.below hb1 (Nat.le_refl _)).mono hb1.size)
  have RG1 := hd ((HG1.out.below hb1 (Nat.le_refl _)).mono hb1.size)
  have RL2 := hd ((HL2.out.below hb1 (Nat.le_refl _)).mono hb1.size)
  have RG2 := hd ((HG2.out.below hb1 (Nat.le_refl _)).mono hb1.size)
  clear hb1
  go_enter Tryz.func3, Tryz.ntmps3
  go_wp2_with fail
  generalize (w.alloc (Obj.cells #[.string nm0, .int .i64 st, .slice A0 bs0.length c0, .slice B0 gs0.length d0, .string nm1, .int .i64 st, .slice A1 bs1.length c1, .slice B1 gs1.length d1, .string nm2, .int .i64 st, .slice A2 bs2.length c2, .slice B2 gs2.length d2] 26)) = W1 at *
  refine (HA.out _).mono ?_
  rintro e z0 ⟨rfl, hb⟩
  replace HQ := hd ((hb.block _ (blk_lt HQ.out)).trans HQ.out)
  replace HB := hd (HB.out.trans (hb.mono HB.out.size))
  replace RL0 := hd ((RL0.out.below hb (Nat.le_refl _)).mono hb.size)
  replace RG0 := hd ((RG0.out.below hb (Nat.le_refl _)).mono hb.size)
  replace RL1 := hd ((RL1.out.below hb (Nat.le_refl _)).mono hb.size)
  replace RG1 := hd ((RG1.out.below hb (Nat.le_refl _)).mono hb.size)
  replace RL2 := hd ((RL2.out.below hb (Nat.le_refl _)).mono hb.size)
  replace RG2 := hd ((RG2.out.below hb (Nat.le_refl _)).mono hb.size)
  clear hb
  have hZ := cells12 HQ.out
  obtain ⟨k0, k1, k2, k3, k4, k5, k6, k7, k8, k9, k10, k11⟩ := hZ
  go_wp2_with fail
  refine (short_any nm0 st A0 B0 bs0.length c0 gs0.length d0 _).mono ?_
  rw [S0.out]
  rintro e z1 ⟨rfl, hb⟩
  replace HQ := hd ((hb.block _ (blk_lt HQ.out)).trans HQ.out)
  replace HB := hd (HB.out.trans (hb.mono HB.out.size))
  replace RL0 := hd ((RL0.out.below hb (Nat.le_refl _)).mono hb.size)
  replace RG0 := hd ((RG0.out.below hb (Nat.le_refl _)).mono hb.size)
  replace RL1 := hd ((RL1.out.below hb (Nat.le_refl _)).mono hb.size)
  replace RG1 := hd ((RG1.out.below hb (Nat.le_refl _)).mono hb.size)
  replace RL2 := hd ((RL2.out.below hb (Nat.le_refl _)).mono hb.size)
  replace RG2 := hd ((RG2.out.below hb (Nat.le_refl _)).mono hb.size)
  clear hb
  clear k0 k1 k2 k3 k4 k5 k6 k7 k8 k9 k10 k11
  have hZ := cells12 HQ.out
  obtain ⟨k0, k1, k2, k3, k4, k5, k6, k7, k8, k9, k10, k11⟩ := hZ
  go_wp2_with fail
  refine (short_any nm1 st A1 B1 bs1.length c1 gs1.length d1 _).mono ?_
  rw [S1.out]
  rintro e z2 ⟨rfl, hb⟩
  replace HQ := hd ((hb.block _ (blk_lt HQ.out)).trans HQ.out)
  replace HB := hd (HB.out.trans (hb.mono HB.out.size))
  replace RL0 := hd ((RL0.out.below hb (Nat.le_refl _)).mono hb.size)
  replace RG0 := hd ((RG0.out.below hb (Nat.le_refl _)).mono hb.size)
  replace RL1 := hd ((RL1.out.below hb (Nat.le_refl _)).mono hb.size)
  replace RG1 := hd ((RG1.out.below hb (Nat.le_refl _)).mono hb.size)
  replace RL2 := hd ((RL2.out.below hb (Nat.le_refl _)).mono hb.size)
  replace RG2 := hd ((RG2.out.below hb (Nat.le_refl _)).mono hb.size)
  clear hb
  clear k0 k1 k2 k3 k4 k5 k6 k7 k8 k9 k10 k11
  have hZ := cells12 HQ.out
  obtain ⟨k0, k1, k2, k3, k4, k5, k6, k7, k8, k9, k10, k11⟩ := hZ
  go_wp2_with fail
  refine (short_any nm2 st A2 B2 bs2.length c2 gs2.length d2 _).mono ?_
  rw [S2.out]
  rintro e z3 ⟨rfl, hb⟩
  replace HQ := hd ((hb.block _ (blk_lt HQ.out)).trans HQ.out)
  replace HB := hd (HB.out.trans (hb.mono HB.out.size))
  replace RL0 := hd ((RL0.out.below hb (Nat.le_refl _)).mono hb.size)
  replace RG0 := hd ((RG0.out.below hb (Nat.le_refl _)).mono hb.size)
  replace RL1 := hd ((RL1.out.below hb (Nat.le_refl _)).mono hb.size)
  replace RG1 := hd ((RG1.out.below hb (Nat.le_refl _)).mono hb.size)
  replace RL2 := hd ((RL2.out.below hb (Nat.le_refl _)).mono hb.size)
  replace RG2 := hd ((RG2.out.below hb (Nat.le_refl _)).mono hb.size)
  clear hb
  clear k0 k1 k2 k3 k4 k5 k6 k7 k8 k9 k10 k11
  have hZ := cells12 HQ.out
  obtain ⟨k0, k1, k2, k3, k4, k5, k6, k7, k8, k9, k10, k11⟩ := hZ
  go_wp2_with fail
  clear k0 k1 k2 k3 k4 k5 k6 k7 k8 k9 k10 k11
  refine mid_l1 nm0 nm1 nm2 st A0 B0 A1 B1 A2 B2 c0 d0 c1 d1 c2 d2 w.heap.size bs0 bs1 bs2 gs0 gs1 gs2 z3 _ _ HQ (hd (fun (X : World) (hbx : Below z3.heap.size z3 X) => CR0.out X _ _ ((RL0.out.below hbx (Nat.le_refl _)).mono hbx.size) ((RG0.out.below hbx (Nat.le_refl _)).mono hbx.size))) (hd (fun (X : World) (hbx : Below z3.heap.size z3 X) => CR1.out X _ _ ((RL1.out.below hbx (Nat.le_refl _)).mono hbx.size) ((RG1.out.below hbx (Nat.le_refl _)).mono hbx.size))) (hd (fun (X : World) (hbx : Below z3.heap.size z3 X) => CR2.out X _ _ ((RL2.out.below hbx (Nat.le_refl _)).mono hbx.size) ((RG2.out.below hbx (Nat.le_refl _)).mono hbx.size))) HE (hd (Below.refl _ _)) ?_
  intro u4 u6 u54 u55 u56 u57 u58 u59 u60 u61 u62 u63 u64 u65 u66 u67 u68 u69 u70 u71 u72 u73 u74 u75 u76 u77 u78 z4 hb
  replace HQ := hd ((hb.block _ (blk_lt HQ.out)).trans HQ.out)
  replace HB := hd (HB.out.trans (hb.mono HB.out.size))
  replace RL0 := hd ((RL0.out.below hb (Nat.le_refl _)).mono hb.size)
  replace RG0 := hd ((RG0.out.below hb (Nat.le_refl _)).mono hb.size)
  replace RL1 := hd ((RL1.out.below hb (Nat.le_refl _)).mono hb.size)
  replace RG1 := hd ((RG1.out.below hb (Nat.le_refl _)).mono hb.size)
  replace RL2 := hd ((RL2.out.below hb (Nat.le_refl _)).mono hb.size)
  replace RG2 := hd ((RG2.out.below hb (Nat.le_refl _)).mono hb.size)
  clear hb
  go_wp2_with fail
  refine mid_r9 nm0 nm1 nm2 st tol a0 a1 a2 A0 B0 A1 B1 A2 B2 c0 d0 c1 d1 c2 d2 w.heap.size bs0 bs1 bs2 XV gs0 gs1 gs2 VG z4 _ HT HQ (hd (fun (X : World) (hbx : Below z4.heap.size z4 X) => lawRecord_any nm0 st _ _ bs0 gs0 X ((RL0.out.below hbx (Nat.le_refl _)).mono hbx.size) ((RG0.out.below hbx (Nat.le_refl _)).mono hbx.size) FL0.out FG0.out HN0.out.1 HN0.out.2)) (hd (fun (X : World) (hbx : Below z4.heap.size z4 X) => lawRecord_any nm1 st _ _ bs1 gs1 X ((RL1.out.below hbx (Nat.le_refl _)).mono hbx.size) ((RG1.out.below hbx (Nat.le_refl _)).mono hbx.size) FL1.out FG1.out HN1.out.1 HN1.out.2)) (hd (fun (X : World) (hbx : Below z4.heap.size z4 X) => lawRecord_any nm2 st _ _ bs2 gs2 X ((RL2.out.below hbx (Nat.le_refl _)).mono hbx.size) ((RG2.out.below hbx (Nat.le_refl _)).mono hbx.size) FL2.out FG2.out HN2.out.1 HN2.out.2)) GV9 ?_
  intro u79 u80 u81 u82 u83 u84 u85 u86 u87 u88 u89 u90 u91 u92 u93 u94 u95 z5 P9 Q9 hfact
  obtain ⟨hb, lv, gv, hp, hq, hl, hg, fl, fg⟩ := hfact
  obtain ⟨Av9, cv9, rfl, -⟩ := id hl
  obtain ⟨Aw9, cw9, rfl, -⟩ := id hg
  have HP9 := hd hp
  have HQ9 := hd hq
  have RV9 := hd hl
  have RW9 := hd hg
  clear hp hq hl hg fl fg
  replace HQ := hd ((hb.block _ (blk_lt HQ.out)).trans HQ.out)
  replace HB := hd (HB.out.trans (hb.mono HB.out.size))
  replace RL0 := hd ((RL0.out.below hb (Nat.le_refl _)).mono hb.size)
  replace RG0 := hd ((RG0.out.below hb (Nat.le_refl _)).mono hb.size)
  replace RL1 := hd ((RL1.out.below hb (Nat.le_refl _)).mono hb.size)
  replace RG1 := hd ((RG1.out.below hb (Nat.le_refl _)).mono hb.size)
  replace RL2 := hd ((RL2.out.below hb (Nat.le_refl _)).mono hb.size)
  replace RG2 := hd ((RG2.out.below hb (Nat.le_refl _)).mono hb.size)
  clear hb
  go_wp2_with fail
  refine mid_r10 nm0 nm1 nm2 st tol a2 a0 a1 A0 B0 A1 B1 A2 B2 c0 d0 c1 d1 c2 d2 w.heap.size bs0 bs1 bs2 XW gs0 gs1 gs2 VG z5 _ HT HQ (hd (fun (X : World) (hbx : Below z5.heap.size z5 X) => lawRecord_any nm0 st _ _ bs0 gs0 X ((RL0.out.below hbx (Nat.le_refl _)).mono hbx.size) ((RG0.out.below hbx (Nat.le_refl _)).mono hbx.size) FL0.out FG0.out HN0.out.1 HN0.out.2)) (hd (fun (X : World) (hbx : Below z5.heap.size z5 X) => lawRecord_any nm1 st _ _ bs1 gs1 X ((RL1.out.below hbx (Nat.le_refl _)).mono hbx.size) ((RG1.out.below hbx (Nat.le_refl _)).mono hbx.size) FL1.out FG1.out HN1.out.1 HN1.out.2)) (hd (fun (X : World) (hbx : Below z5.heap.size z5 X) => lawRecord_any nm2 st _ _ bs2 gs2 X ((RL2.out.below hbx (Nat.le_refl _)).mono hbx.size) ((RG2.out.below hbx (Nat.le_refl _)).mono hbx.size) FL2.out FG2.out HN2.out.1 HN2.out.2)) GV10 ?_
  intro u96 u97 u98 u99 u100 u101 u102 u103 u104 u105 u106 u107 u108 u109 u110 u111 u112 z6 P10 Q10 hfact
  obtain ⟨hb, lv, gv, hp, hq, hl, hg, fl, fg⟩ := hfact
  obtain ⟨Av10, cv10, rfl, -⟩ := id hl
  obtain ⟨Aw10, cw10, rfl, -⟩ := id hg
  have HP10 := hd hp
  have HQ10 := hd hq
  have RV10 := hd hl
  have RW10 := hd hg
  clear hp hq hl hg fl fg
  replace HQ := hd ((hb.block _ (blk_lt HQ.out)).trans HQ.out)
  replace HP9 := hd ((hb.block _ (blk_lt HP9.out)).trans HP9.out)
  replace HQ9 := hd ((hb.block _ (blk_lt HQ9.out)).trans HQ9.out)
  replace HB := hd (HB.out.trans (hb.mono HB.out.size))
  replace RL0 := hd ((RL0.out.below hb (Nat.le_refl _)).mono hb.size)
  replace RG0 := hd ((RG0.out.below hb (Nat.le_refl _)).mono hb.size)
  replace RL1 := hd ((RL1.out.below hb (Nat.le_refl _)).mono hb.size)
  replace RG1 := hd ((RG1.out.below hb (Nat.le_refl _)).mono hb.size)
  replace RL2 := hd ((RL2.out.below hb (Nat.le_refl _)).mono hb.size)
  replace RG2 := hd ((RG2.out.below hb (Nat.le_refl _)).mono hb.size)
  replace RV9 := hd ((RV9.out.below hb (Nat.le_refl _)).mono hb.size)
  replace RW9 := hd ((RW9.out.below hb (Nat.le_refl _)).mono hb.size)
  clear hb
  go_wp2_with fail
  refine mid_r11 nm0 nm1 nm2 st tol 0 0 0 A0 B0 A1 B1 A2 B2 c0 d0 c1 d1 c2 d2 w.heap.size bs0 bs1 bs2 XS gs0 gs1 gs2 gs0 z6 _ HT HQ (hd (fun (X : World) (hbx : Below z6.heap.size z6 X) => lawRecord_any nm0 st _ _ bs0 gs0 X ((RL0.out.below hbx (Nat.le_refl _)).mono hbx.size) ((RG0.out.below hbx (Nat.le_refl _)).mono hbx.size) FL0.out FG0.out HN0.out.1 HN0.out.2)) (hd (fun (X : World) (hbx : Below z6.heap.size z6 X) => lawRecord_any nm1 st _ _ bs1 gs1 X ((RL1.out.below hbx (Nat.le_refl _)).mono hbx.size) ((RG1.out.below hbx (Nat.le_refl _)).mono hbx.size) FL1.out FG1.out HN1.out.1 HN1.out.2)) (hd (fun (X : World) (hbx : Below z6.heap.size z6 X) => lawRecord_any nm2 st _ _ bs2 gs2 X ((RL2.out.below hbx (Nat.le_refl _)).mono hbx.size) ((RG2.out.below hbx (Nat.le_refl _)).mono hbx.size) FL2.out FG2.out HN2.out.1 HN2.out.2)) GV11 ?_
  intro u113 u114 u115 u116 u117 u118 u119 u120 u121 u122 u123 u124 u125 u126 u127 u128 u129 z7 P11 Q11 hfact
  obtain ⟨hb, lv, gv, hp, hq, hl, hg, fl, fg⟩ := hfact
  obtain ⟨Av11, cv11, rfl, -⟩ := id hl
  obtain ⟨Aw11, cw11, rfl, -⟩ := id hg
  have HP11 := hd hp
  have HQ11 := hd hq
  have RV11 := hd hl
  have RW11 := hd hg
  clear hp hq hl hg fl fg
  replace HQ := hd ((hb.block _ (blk_lt HQ.out)).trans HQ.out)
  replace HP9 := hd ((hb.block _ (blk_lt HP9.out)).trans HP9.out)
  replace HQ9 := hd ((hb.block _ (blk_lt HQ9.out)).trans HQ9.out)
  replace HP10 := hd ((hb.block _ (blk_lt HP10.out)).trans HP10.out)
  replace HQ10 := hd ((hb.block _ (blk_lt HQ10.out)).trans HQ10.out)
  replace HB := hd (HB.out.trans (hb.mono HB.out.size))
  replace RL0 := hd ((RL0.out.below hb (Nat.le_refl _)).mono hb.size)
  replace RG0 := hd ((RG0.out.below hb (Nat.le_refl _)).mono hb.size)
  replace RL1 := hd ((RL1.out.below hb (Nat.le_refl _)).mono hb.size)
  replace RG1 := hd ((RG1.out.below hb (Nat.le_refl _)).mono hb.size)
  replace RL2 := hd ((RL2.out.below hb (Nat.le_refl _)).mono hb.size)
  replace RG2 := hd ((RG2.out.below hb (Nat.le_refl _)).mono hb.size)
  replace RV9 := hd ((RV9.out.below hb (Nat.le_refl _)).mono hb.size)
  replace RW9 := hd ((RW9.out.below hb (Nat.le_refl _)).mono hb.size)
  replace RV10 := hd ((RV10.out.below hb (Nat.le_refl _)).mono hb.size)
  replace RW10 := hd ((RW10.out.below hb (Nat.le_refl _)).mono hb.size)
  clear hb
  go_wp2_with fail
  refine mid_r12 nm0 nm1 nm2 st tol 0 0 0 A0 B0 A1 B1 A2 B2 c0 d0 c1 d1 c2 d2 w.heap.size bs0 bs1 bs2 XN gs0 gs1 gs2 NG z7 _ HT HQ (hd (fun (X : World) (hbx : Below z7.heap.size z7 X) => lawRecord_any nm0 st _ _ bs0 gs0 X ((RL0.out.below hbx (Nat.le_refl _)).mono hbx.size) ((RG0.out.below hbx (Nat.le_refl _)).mono hbx.size) FL0.out FG0.out HN0.out.1 HN0.out.2)) (hd (fun (X : World) (hbx : Below z7.heap.size z7 X) => lawRecord_any nm1 st _ _ bs1 gs1 X ((RL1.out.below hbx (Nat.le_refl _)).mono hbx.size) ((RG1.out.below hbx (Nat.le_refl _)).mono hbx.size) FL1.out FG1.out HN1.out.1 HN1.out.2)) (hd (fun (X : World) (hbx : Below z7.heap.size z7 X) => lawRecord_any nm2 st _ _ bs2 gs2 X ((RL2.out.below hbx (Nat.le_refl _)).mono hbx.size) ((RG2.out.below hbx (Nat.le_refl _)).mono hbx.size) FL2.out FG2.out HN2.out.1 HN2.out.2)) GV12 ?_
  intro u130 u131 u132 u133 u134 u135 u136 u137 u138 u139 u140 u141 u142 u143 u144 z8 P12 Q12 hfact
  obtain ⟨hb, lv, gv, hp, hq, hl, hg, fl, fg⟩ := hfact
  obtain ⟨Av12, cv12, rfl, -⟩ := id hl
  obtain ⟨Aw12, cw12, rfl, -⟩ := id hg
  have HP12 := hd hp
  have HQ12 := hd hq
  have RV12 := hd hl
  have RW12 := hd hg
  clear hp hq hl hg fl fg
  replace HQ := hd ((hb.block _ (blk_lt HQ.out)).trans HQ.out)
  replace HP9 := hd ((hb.block _ (blk_lt HP9.out)).trans HP9.out)
  replace HQ9 := hd ((hb.block _ (blk_lt HQ9.out)).trans HQ9.out)
  replace HP10 := hd ((hb.block _ (blk_lt HP10.out)).trans HP10.out)
  replace HQ10 := hd ((hb.block _ (blk_lt HQ10.out)).trans HQ10.out)
  replace HP11 := hd ((hb.block _ (blk_lt HP11.out)).trans HP11.out)
  replace HQ11 := hd ((hb.block _ (blk_lt HQ11.out)).trans HQ11.out)
  replace HB := hd (HB.out.trans (hb.mono HB.out.size))
  replace RL0 := hd ((RL0.out.below hb (Nat.le_refl _)).mono hb.size)
  replace RG0 := hd ((RG0.out.below hb (Nat.le_refl _)).mono hb.size)
  replace RL1 := hd ((RL1.out.below hb (Nat.le_refl _)).mono hb.size)
  replace RG1 := hd ((RG1.out.below hb (Nat.le_refl _)).mono hb.size)
  replace RL2 := hd ((RL2.out.below hb (Nat.le_refl _)).mono hb.size)
  replace RG2 := hd ((RG2.out.below hb (Nat.le_refl _)).mono hb.size)
  replace RV9 := hd ((RV9.out.below hb (Nat.le_refl _)).mono hb.size)
  replace RW9 := hd ((RW9.out.below hb (Nat.le_refl _)).mono hb.size)
  replace RV10 := hd ((RV10.out.below hb (Nat.le_refl _)).mono hb.size)
  replace RW10 := hd ((RW10.out.below hb (Nat.le_refl _)).mono hb.size)
  replace RV11 := hd ((RV11.out.below hb (Nat.le_refl _)).mono hb.size)
  replace RW11 := hd ((RW11.out.below hb (Nat.le_refl _)).mono hb.size)
  clear hb
  have jq1 := fun W : World => eq3i a2 a0 a1 W
  have jq2 := fun W : World => eq3i 0 0 0 W
  have hlx := HXV.out
  have hlx2 : (XV.length : Int) = (bs0.length : Int) := by rw [HXV.out]
  clear hlx
  have F0 : ∀ p : Bw z8, p.out.cell? ⟨w.heap.size, 0, none⟩ = some (.string nm0) := fun p => p.cell (blk_lt HQ.out) (blk_cell HQ.out 0)
  have F1 : ∀ p : Bw z8, p.out.cell? ⟨w.heap.size, 1, none⟩ = some (.int .i64 st) := fun p => p.cell (blk_lt HQ.out) (blk_cell HQ.out 1)
  have F2 : ∀ p : Bw z8, p.out.cell? ⟨w.heap.size, 2, none⟩ = some (.slice A0 bs0.length c0) := fun p => p.cell (blk_lt HQ.out) (blk_cell HQ.out 2)
  have F3 : ∀ p : Bw z8, p.out.cell? ⟨w.heap.size, 3, none⟩ = some (.slice B0 gs0.length d0) := fun p => p.cell (blk_lt HQ.out) (blk_cell HQ.out 3)
  have F4 : ∀ p : Bw z8, p.out.cell? ⟨w.heap.size, 4, none⟩ = some (.string nm1) := fun p => p.cell (blk_lt HQ.out) (blk_cell HQ.out 4)
  have F5 : ∀ p : Bw z8, p.out.cell? ⟨w.heap.size, 5, none⟩ = some (.int .i64 st) := fun p => p.cell (blk_lt HQ.out) (blk_cell HQ.out 5)
  have F6 : ∀ p : Bw z8, p.out.cell? ⟨w.heap.size, 6, none⟩ = some (.slice A1 bs1.length c1) := fun p => p.cell (blk_lt HQ.out) (blk_cell HQ.out 6)
  have F7 : ∀ p : Bw z8, p.out.cell? ⟨w.heap.size, 7, none⟩ = some (.slice B1 gs1.length d1) := fun p => p.cell (blk_lt HQ.out) (blk_cell HQ.out 7)
  have F8 : ∀ p : Bw z8, p.out.cell? ⟨w.heap.size, 8, none⟩ = some (.string nm2) := fun p => p.cell (blk_lt HQ.out) (blk_cell HQ.out 8)
  have F9 : ∀ p : Bw z8, p.out.cell? ⟨w.heap.size, 9, none⟩ = some (.int .i64 st) := fun p => p.cell (blk_lt HQ.out) (blk_cell HQ.out 9)
  have F10 : ∀ p : Bw z8, p.out.cell? ⟨w.heap.size, 10, none⟩ = some (.slice A2 bs2.length c2) := fun p => p.cell (blk_lt HQ.out) (blk_cell HQ.out 10)
  have F11 : ∀ p : Bw z8, p.out.cell? ⟨w.heap.size, 11, none⟩ = some (.slice B2 gs2.length d2) := fun p => p.cell (blk_lt HQ.out) (blk_cell HQ.out 11)
  have F12 : ∀ p : Bw z8, p.out.cell? ⟨P9, 0, none⟩ = some (.string nm0) := fun p => p.cell (blk_lt HP9.out) (blk_cell HP9.out 0)
  have F13 : ∀ p : Bw z8, p.out.cell? ⟨P9, 1, none⟩ = some (.int .i64 st) := fun p => p.cell (blk_lt HP9.out) (blk_cell HP9.out 1)
  have F14 : ∀ p : Bw z8, p.out.cell? ⟨P9, 2, none⟩ = some (.slice Av9 XV.length cv9) := fun p => p.cell (blk_lt HP9.out) (blk_cell HP9.out 2)
  have F15 : ∀ p : Bw z8, p.out.cell? ⟨P9, 3, none⟩ = some (.slice Aw9 VG.length cw9) := fun p => p.cell (blk_lt HP9.out) (blk_cell HP9.out 3)
  have F16 : ∀ p : Bw z8, p.out.cell? ⟨P10, 0, none⟩ = some (.string nm2) := fun p => p.cell (blk_lt HP10.out) (blk_cell HP10.out 0)
  have F17 : ∀ p : Bw z8, p.out.cell? ⟨P10, 1, none⟩ = some (.int .i64 st) := fun p => p.cell (blk_lt HP10.out) (blk_cell HP10.out 1)
  have F18 : ∀ p : Bw z8, p.out.cell? ⟨P10, 2, none⟩ = some (.slice Av10 XW.length cv10) := fun p => p.cell (blk_lt HP10.out) (blk_cell HP10.out 2)
  have F19 : ∀ p : Bw z8, p.out.cell? ⟨P10, 3, none⟩ = some (.slice Aw10 VG.length cw10) := fun p => p.cell (blk_lt HP10.out) (blk_cell HP10.out 3)
  have F20 : ∀ p : Bw z8, p.out.cell? ⟨P11, 0, none⟩ = some (.string nm0) := fun p => p.cell (blk_lt HP11.out) (blk_cell HP11.out 0)
  have F21 : ∀ p : Bw z8, p.out.cell? ⟨P11, 1, none⟩ = some (.int .i64 st) := fun p => p.cell (blk_lt HP11.out) (blk_cell HP11.out 1)
  have F22 : ∀ p : Bw z8, p.out.cell? ⟨P11, 2, none⟩ = some (.slice Av11 XS.length cv11) := fun p => p.cell (blk_lt HP11.out) (blk_cell HP11.out 2)
  have F23 : ∀ p : Bw z8, p.out.cell? ⟨P11, 3, none⟩ = some (.slice Aw11 gs0.length cw11) := fun p => p.cell (blk_lt HP11.out) (blk_cell HP11.out 3)
  have F24 : ∀ p : Bw z8, p.out.cell? ⟨Q9, 0, none⟩ = some (.int .i64 a0) := fun p => p.cell (blk_lt HQ9.out) (blk_cell HQ9.out 0)
  have F25 : ∀ p : Bw z8, p.out.cell? ⟨Q9, 1, none⟩ = some (.int .i64 a1) := fun p => p.cell (blk_lt HQ9.out) (blk_cell HQ9.out 1)
  have F26 : ∀ p : Bw z8, p.out.cell? ⟨Q9, 2, none⟩ = some (.int .i64 a2) := fun p => p.cell (blk_lt HQ9.out) (blk_cell HQ9.out 2)
  have F27 : ∀ p : Bw z8, p.out.cell? ⟨Q10, 0, none⟩ = some (.int .i64 a2) := fun p => p.cell (blk_lt HQ10.out) (blk_cell HQ10.out 0)
  have F28 : ∀ p : Bw z8, p.out.cell? ⟨Q10, 1, none⟩ = some (.int .i64 a0) := fun p => p.cell (blk_lt HQ10.out) (blk_cell HQ10.out 1)
  have F29 : ∀ p : Bw z8, p.out.cell? ⟨Q10, 2, none⟩ = some (.int .i64 a1) := fun p => p.cell (blk_lt HQ10.out) (blk_cell HQ10.out 2)
  have F30 : ∀ p : Bw z8, p.out.cell? ⟨Q11, 0, none⟩ = some (.int .i64 0) := fun p => p.cell (blk_lt HQ11.out) (blk_cell HQ11.out 0)
  have F31 : ∀ p : Bw z8, p.out.cell? ⟨Q11, 1, none⟩ = some (.int .i64 0) := fun p => p.cell (blk_lt HQ11.out) (blk_cell HQ11.out 1)
  have F32 : ∀ p : Bw z8, p.out.cell? ⟨Q11, 2, none⟩ = some (.int .i64 0) := fun p => p.cell (blk_lt HQ11.out) (blk_cell HQ11.out 2)
  have F33 : ∀ p : Bw z8, p.out.cell? ⟨Q12, 0, none⟩ = some (.int .i64 0) := fun p => p.cell (blk_lt HQ12.out) (blk_cell HQ12.out 0)
  have F34 : ∀ p : Bw z8, p.out.cell? ⟨Q12, 1, none⟩ = some (.int .i64 0) := fun p => p.cell (blk_lt HQ12.out) (blk_cell HQ12.out 1)
  have F35 : ∀ p : Bw z8, p.out.cell? ⟨Q12, 2, none⟩ = some (.int .i64 0) := fun p => p.cell (blk_lt HQ12.out) (blk_cell HQ12.out 2)
  have HC1 := hd (fun (p : Bw z8) => show Calls Tryz.prog 10 #[.slice Av9 XV.length cv9, .slice Av10 XW.length cv10] p.out (fun e w' => e = .returned (.bool true) ∧ Below p.out.heap.size p.out w') from (sameLevels_any _ _ XV XW p.out ((RV9.out.below p.below (Nat.le_refl _)).mono p.below.size) ((RV10.out.below p.below (Nat.le_refl _)).mono p.below.size)).mono fun e w' ⟨he, hb⟩ => ⟨by rw [he, HVW.out], hb⟩)
  have HC2 := hd (fun (p : Bw z8) => show Calls Tryz.prog 11 #[.slice Aw9 VG.length cw9, .slice Aw10 VG.length cw10] p.out (fun e w' => e = .returned (.bool true) ∧ Below p.out.heap.size p.out w') from (sameSpans_any _ _ VG VG p.out ((RW9.out.below p.below (Nat.le_refl _)).mono p.below.size) ((RW10.out.below p.below (Nat.le_refl _)).mono p.below.size)).mono fun e w' ⟨he, hb⟩ => ⟨by rw [he, show sameF (fun x y : Int × Int => x == y) (0, 0) VG VG = true from sameF_yes _ _ _ _ rfl (fun j _ => by simp)], hb⟩)
  have HC3 := hd (fun (p : Bw z8) => sameRec_yes nm0 st (.slice Av11 XS.length cv11) (.slice Aw11 gs0.length cw11) (.slice A0 bs0.length c0) (.slice B0 gs0.length d0) XS bs0 gs0 gs0 p.out ((RV11.out.below p.below (Nat.le_refl _)).mono p.below.size) ((RW11.out.below p.below (Nat.le_refl _)).mono p.below.size) ((RL0.out.below p.below (Nat.le_refl _)).mono p.below.size) ((RG0.out.below p.below (Nat.le_refl _)).mono p.below.size) HS0.out (sameF_yes (fun x y : Int × Int => x == y) (0, 0) gs0 gs0 rfl (fun j _ => by simp)))
  have HC4 := hd (fun (p : Bw z8) => CV.out p.out _ _ ((RV9.out.below p.below (Nat.le_refl _)).mono p.below.size) ((RW9.out.below p.below (Nat.le_refl _)).mono p.below.size))
  go_wp2_with fail
  dsimp only [List.append]
  refine wp_region_bw (by kernel_rfl) (by kernel_rfl) ?_
  repeat (first | go_big_quiet_step (first | (go_at_call 10; exact Bw.call _ (HC1.out _)) | (go_at_call 11; exact Bw.call _ (HC2.out _)) | (go_at_call 13; exact Bw.call _ (own_rec _ _ _ _ _ _ _ _ _)) | (go_at_call 12; exact Bw.call _ (HC3.out _)) | (go_at_call 7; exact Bw.call _ (HC4.out _))))
  refine wpQuiet_nil ?_
  rintro ⟨z9, hb⟩
  change Exit.then _ _ _ _ z9
  clear F0 F1 F2 F3 F4 F5 F6 F7 F8 F9 F10 F11 F12 F13 F14 F15 F16 F17 F18 F19 F20 F21 F22 F23 F24 F25 F26 F27 F28 F29 F30 F31 F32 F33 F34 F35 HC1 HC2 HC3 HC4
  replace HQ := hd ((hb.block _ (blk_lt HQ.out)).trans HQ.out)
  replace HP9 := hd ((hb.block _ (blk_lt HP9.out)).trans HP9.out)
  replace HQ9 := hd ((hb.block _ (blk_lt HQ9.out)).trans HQ9.out)
  replace HP10 := hd ((hb.block _ (blk_lt HP10.out)).trans HP10.out)
  replace HQ10 := hd ((hb.block _ (blk_lt HQ10.out)).trans HQ10.out)
  replace HP11 := hd ((hb.block _ (blk_lt HP11.out)).trans HP11.out)
  replace HQ11 := hd ((hb.block _ (blk_lt HQ11.out)).trans HQ11.out)
  replace HP12 := hd ((hb.block _ (blk_lt HP12.out)).trans HP12.out)
  replace HQ12 := hd ((hb.block _ (blk_lt HQ12.out)).trans HQ12.out)
  replace HB := hd (HB.out.trans (hb.mono HB.out.size))
  replace RL0 := hd ((RL0.out.below hb (Nat.le_refl _)).mono hb.size)
  replace RG0 := hd ((RG0.out.below hb (Nat.le_refl _)).mono hb.size)
  replace RL1 := hd ((RL1.out.below hb (Nat.le_refl _)).mono hb.size)
  replace RG1 := hd ((RG1.out.below hb (Nat.le_refl _)).mono hb.size)
  replace RL2 := hd ((RL2.out.below hb (Nat.le_refl _)).mono hb.size)
  replace RG2 := hd ((RG2.out.below hb (Nat.le_refl _)).mono hb.size)
  replace RV9 := hd ((RV9.out.below hb (Nat.le_refl _)).mono hb.size)
  replace RW9 := hd ((RW9.out.below hb (Nat.le_refl _)).mono hb.size)
  replace RV10 := hd ((RV10.out.below hb (Nat.le_refl _)).mono hb.size)
  replace RW10 := hd ((RW10.out.below hb (Nat.le_refl _)).mono hb.size)
  replace RV11 := hd ((RV11.out.below hb (Nat.le_refl _)).mono hb.size)
  replace RW11 := hd ((RW11.out.below hb (Nat.le_refl _)).mono hb.size)
  replace RV12 := hd ((RV12.out.below hb (Nat.le_refl _)).mono hb.size)
  replace RW12 := hd ((RW12.out.below hb (Nat.le_refl _)).mono hb.size)
  clear hb
  have hZ := cells12 HQ.out
  obtain ⟨k0, k1, k2, k3, k4, k5, k6, k7, k8, k9, k10, k11⟩ := hZ
  have p0 := blk_cell HP9.out 0
  have p1 := blk_cell HP9.out 1
  have p2 := blk_cell HP9.out 2
  have p3 := blk_cell HP9.out 3
  simp at p0 p1 p2 p3
  have q0 := blk_cell HP10.out 0
  have q1 := blk_cell HP10.out 1
  have q2 := blk_cell HP10.out 2
  have q3 := blk_cell HP10.out 3
  simp at q0 q1 q2 q3
  have r0 := blk_cell HP11.out 0
  have r1 := blk_cell HP11.out 1
  have r2 := blk_cell HP11.out 2
  have r3 := blk_cell HP11.out 3
  simp at r0 r1 r2 r3
  have i0 := blk_cell HQ9.out 0
  have i1 := blk_cell HQ9.out 1
  have i2 := blk_cell HQ9.out 2
  simp at i0 i1 i2
  have j0 := blk_cell HQ10.out 0
  have j1 := blk_cell HQ10.out 1
  have j2 := blk_cell HQ10.out 2
  simp at j0 j1 j2
  have l0 := blk_cell HQ11.out 0
  have l1 := blk_cell HQ11.out 1
  have l2 := blk_cell HQ11.out 2
  simp at l0 l1 l2
  have m0 := blk_cell HQ12.out 0
  have m1 := blk_cell HQ12.out 1
  have m2 := blk_cell HQ12.out 2
  simp at m0 m1 m2
  clear hlx2 jq1 jq2
  have pl := blk_lt HP9.out
  have pn := Nat.ne_of_lt pl
  have pm := pn.symm
  go_wp2_with fail
  clear pl pn pm
  clear k0 k1 k2 k3 k4 k5 k6 k7 k8 k9 k10 k11
  clear p0 p1 p2 p3 q0 q1 q2 q3 r0 r1 r2 r3 i0 i1 i2 j0 j1 j2 l0 l1 l2 m0 m1 m2
  have hcb := blk_new z9 #[.int .i64 0, .int .i64 0, .int .i64 0] 31
  refine mid_l2 nm0 nm1 nm2 nm0 st tol A0 B0 A1 B1 A2 B2 Av9 Aw9 c0 d0 c1 d1 c2 d2 cv9 cw9 XV.length w.heap.size P9 z9.heap.size bs0 bs1 bs2 XV gs0 gs1 gs2 VG z9 _ _ RL0 RG0 RL1 RG1 RL2 RG2 HQ HP9 RV9 RW9 (hd ⟨HXV.out.symm, HE.out.1.trans HXV.out.symm, HE.out.2.trans HXV.out.symm, by rw [HXV.out]; exact HN0.out.1, rfl⟩) (hd (fun i hi => HV.out i (by rw [← HXV.out]; exact hi))) HT (hd (fun i hi => HX1.out i (by rw [← HXV.out]; exact hi))) (hd (Nat.le_refl _)) (hd hcb) (hd ((Below.refl _ _).alloc (Nat.le_refl _) _)) ?_
  intro u4 u20 u21 u22 u23 u24 u25 u26 u27 u28 u29 u30 u31 u233 u234 u235 u236 u237 u238 u239 u240 u241 u242 u243 u244 u245 u246 u247 u248 u249 u250 u251 u252 u253 u254 u255 u256 u257 u258 u259 u260 u261 u262 u263 u264 u265 u266 u267 u268 u269 u270 u271 u272 u273 u274 u275 u276 u277 u278 u279 u280 u281 u282 u283 u284 u285 u286 u287 u288 u289 u290 u291 u292 u293 u294 u295 u296 u297 u298 u299 u300 u301 u302 u303 u304 u305 u306 u307 u308 u309 u310 u311 u312 u313 u314 u315 u316 u317 u318 u319 u320 u321 u322 u323 u324 u325 u326 u327 u328 u329 u330 u331 u332 u333 u334 u335 u336 u337 u338 u339 u340 u341 u342 u343 u344 u345 u346 u347 u348 u349 u350 u351 u352 u353 u354 u355 u356 u357 u358 u359 u360 u361 u362 u363 u364 u365 u366 u367 u368 u369 u370 u371 u372 u373 z10 hct hb
  clear hcb
  rw [HXV.out, HCN.out.1, HCN.out.2.1, HCN.out.2.2] at hct
  have HCT := hd hct
  clear hct
  replace HQ := hd ((hb.block _ (blk_lt HQ.out)).trans HQ.out)
  replace HP9 := hd ((hb.block _ (blk_lt HP9.out)).trans HP9.out)
  replace HQ9 := hd ((hb.block _ (blk_lt HQ9.out)).trans HQ9.out)
  replace HP10 := hd ((hb.block _ (blk_lt HP10.out)).trans HP10.out)
  replace HQ10 := hd ((hb.block _ (blk_lt HQ10.out)).trans HQ10.out)
  replace HP11 := hd ((hb.block _ (blk_lt HP11.out)).trans HP11.out)
  replace HQ11 := hd ((hb.block _ (blk_lt HQ11.out)).trans HQ11.out)
  replace HP12 := hd ((hb.block _ (blk_lt HP12.out)).trans HP12.out)
  replace HQ12 := hd ((hb.block _ (blk_lt HQ12.out)).trans HQ12.out)
  replace HB := hd (HB.out.trans (hb.mono HB.out.size))
  replace RL0 := hd ((RL0.out.below hb (Nat.le_refl _)).mono hb.size)
  replace RG0 := hd ((RG0.out.below hb (Nat.le_refl _)).mono hb.size)
  replace RL1 := hd ((RL1.out.below hb (Nat.le_refl _)).mono hb.size)
  replace RG1 := hd ((RG1.out.below hb (Nat.le_refl _)).mono hb.size)
  replace RL2 := hd ((RL2.out.below hb (Nat.le_refl _)).mono hb.size)
  replace RG2 := hd ((RG2.out.below hb (Nat.le_refl _)).mono hb.size)
  replace RV9 := hd ((RV9.out.below hb (Nat.le_refl _)).mono hb.size)
  replace RW9 := hd ((RW9.out.below hb (Nat.le_refl _)).mono hb.size)
  replace RV10 := hd ((RV10.out.below hb (Nat.le_refl _)).mono hb.size)
  replace RW10 := hd ((RW10.out.below hb (Nat.le_refl _)).mono hb.size)
  replace RV11 := hd ((RV11.out.below hb (Nat.le_refl _)).mono hb.size)
  replace RW11 := hd ((RW11.out.below hb (Nat.le_refl _)).mono hb.size)
  replace RV12 := hd ((RV12.out.below hb (Nat.le_refl _)).mono hb.size)
  replace RW12 := hd ((RW12.out.below hb (Nat.le_refl _)).mono hb.size)
  clear hb
  have hZ := box3c HCT.out
  obtain ⟨e0, e1, e2, -, -, -⟩ := hZ
  have hZ := box3c HQ9.out
  obtain ⟨i0, i1, i2, -, -, -⟩ := hZ
  have jq := fun W : World => eq3i a0 a1 a2 W
  go_wp2
  go_returns
  exact ⟨rfl, HB.out⟩
end Go.Proofs.YtibhjdmndlelaaaGreatDoor
