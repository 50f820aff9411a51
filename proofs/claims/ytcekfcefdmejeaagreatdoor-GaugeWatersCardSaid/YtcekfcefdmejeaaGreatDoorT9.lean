/-
  The walk of GaugeWaters, by which of its errors are 0.
-/
import Derived.Test.YtcekfcefdmejeaaGreatDoorProg
import Derived.Test.YtcekfcefdmejeaaGreatDoorT7
import Derived.Test.YtcekfcefdmejeaaGreatDoorQ4
import Derived.Test.YtcekfcefdmejeaaGreatDoorQ5
import Derived.Test.YtcekfcefdmejeaaGreatDoorQ8
import Derived.Test.YtcekfcefdmejeaaGreatDoorAw
import Derived.Deep.RegionHeld3
namespace Go.Proofs.YtcekfcefdmejeaaGreatDoor
open Go.RowKit
attribute [local go_sem] Oper.semAt_some

/-- Integers or spans in a slice, and an error. -/
def GotI (l : List Int) (x : Int) (w : World) (e : Ending) (w' : World) : Prop :=
  ∃ v, e = .returned (.tuple #[v, .int .i64 x]) ∧ Rd w' w'.heap.size v l.length (l.map (Value.int .i64)) ∧ Below w.heap.size w w'
def GotS (l : List (Int × Int)) (x : Int) (w : World) (e : Ending) (w' : World) : Prop :=
  ∃ v, e = .returned (.tuple #[v, .int .i64 x]) ∧ Rd w' w'.heap.size v l.length (spc l) ∧ Below w.heap.size w w'
theorem sm_refl (l : List (Int × Int)) : sameF (fun x y : Int × Int => x == y) (0, 0) l l = true := sameF_yes (fun x y : Int × Int => x == y) (0, 0) l l rfl (fun j _ => by simp)

set_option maxRecDepth 1000000 in
set_option maxHeartbeats 16000000 in
theorem waters_111 (HA : Hid Awake) (nm : ByteArray) (st wd : Int) (lev : Nat) (A A2 : Option Addr) (c c2 : Nat) (bs : List Nat) (gs : List (Int × Int)) (LH LO : List Int) (LA : List (Int × Int)) (E x1 x3 : Int) (cn sm e4 : Int) (lo hi lo' hi' : Nat) (w : World)
    (HL : Hid (Rd w w.heap.size (.slice A bs.length c) bs.length (flc bs))) (HG : Hid (Rd w w.heap.size (.slice A2 gs.length c2) gs.length (spc gs))) (FL : Hid (Full (.slice A bs.length c))) (FG : Hid (Full (.slice A2 gs.length c2)))
    (S1 : Hid (shortR nm.size bs.length gs.length = true)) (HN : Hid (bs.length ≤ 100000 ∧ gs.length ≤ 100000))
    (CR : Hid (∀ (W : World) (lv gv : Value), Rd W W.heap.size lv bs.length (flc bs) → Rd W W.heap.size gv gs.length (spc gs) → Calls Tryz.prog 15 #[.agg #[.string nm, .int .i64 st, lv, gv]] W fun e w' => e = .returned (.int .i64 E) ∧ Below W.heap.size W w'))
    (H1 : Hid (fst0 [E, rng wd 1 4096] = x1)) (h1 : (x1 == 0) = true) (H3 : Hid (fst0 [E, chkLev lev] = x3)) (h3 : (x3 == 0) = true) (h4 : (E == 0) = true)
    (GH : Hid (∀ (W : World) (lv gv : Value), Rd W W.heap.size lv bs.length (flc bs) → Rd W W.heap.size gv gs.length (spc gs) → Calls Tryz.prog 27 #[.agg #[.string nm, .int .i64 st, lv, gv], .int .i64 wd] W (GotI LH x1 W)))
    (GL : Hid (∀ (W : World) (lv gv : Value), Rd W W.heap.size lv bs.length (flc bs) → Rd W W.heap.size gv gs.length (spc gs) → Calls Tryz.prog 28 #[.agg #[.string nm, .int .i64 st, lv, gv], .int .i64 wd] W (GotI LO x1 W)))
    (GA : Hid (∀ (W : World) (lv gv : Value), Rd W W.heap.size lv bs.length (flc bs) → Rd W W.heap.size gv gs.length (spc gs) → Calls Tryz.prog 29 #[.agg #[.string nm, .int .i64 st, lv, gv], .float .f32 lev] W (GotS LA x3 W)))
    (GS : Hid (∀ (W : World) (lv gv : Value), Rd W W.heap.size lv bs.length (flc bs) → Rd W W.heap.size gv gs.length (spc gs) → Calls Tryz.prog 30 #[.agg #[.string nm, .int .i64 st, lv, gv]] W fun e w' => e = .returned (.tuple #[.agg #[.int .i64 cn, .int .i64 sm, .float .f32 lo, .float .f32 hi], .int .i64 e4]) ∧ Below W.heap.size W w'))
    (RW : Hid (∀ (W : World) (lv gv : Value), Rd W W.heap.size lv bs.length (flc bs) → Rd W W.heap.size gv gs.length (spc gs) → Calls Tryz.prog 32 #[.agg #[.string nm, .int .i64 st, lv, gv], .int .i64 wd, .float .f32 1065353216] W (OwnsIn W.heap.size LH W)))
    (RV : Hid (∀ (W : World) (lv gv : Value), Rd W W.heap.size lv bs.length (flc bs) → Rd W W.heap.size gv gs.length (spc gs) → Calls Tryz.prog 32 #[.agg #[.string nm, .int .i64 st, lv, gv], .int .i64 wd, .float .f32 3212836864] W (OwnsIn W.heap.size LO W)))
    (RA : Hid (∀ (W : World) (lv gv : Value), Rd W W.heap.size lv bs.length (flc bs) → Rd W W.heap.size gv gs.length (spc gs) → Calls Tryz.prog 33 #[.agg #[.string nm, .int .i64 st, lv, gv], .float .f32 lev] W (OwnsSp W.heap.size LA W)))
    (RS : Hid (∀ (W : World) (lv gv : Value), Rd W W.heap.size lv bs.length (flc bs) → Rd W W.heap.size gv gs.length (spc gs) → Calls Tryz.prog 34 #[.agg #[.string nm, .int .i64 st, lv, gv]] W fun e w' => e = .returned (.tuple #[.agg #[.int .i64 cn, .int .i64 sm, .float .f32 lo', .float .f32 hi'], .int .i64 e4]) ∧ Below W.heap.size W w'))
    (hlo : feqL lo lo' = true) (hhi : feqL hi hi' = true) :
    Calls Tryz.prog 5 #[.agg #[.string nm, .int .i64 st, .slice A bs.length c, .slice A2 gs.length c2], .int .i64 wd, .float .f32 lev] w fun e w' => e = .returned (.bool true) ∧ Below w.heap.size w w' := by
  have hE1 := fun w => (eqFl 9998 lo lo' w).trans (by rw [hlo])
  have hE2 := fun w => (eqFl 9998 hi hi' w).trans (by rw [hhi])
  clear hlo hhi
  have hc4 : bs.length ≤ c ∧ c ≤ 9223372036854775807 := by obtain ⟨A', c', e, h1, h2, -⟩ := HL.out; cases e; unfold maxLen at h2; omega
  obtain ⟨hc5, hc6⟩ := hc4
  have hb1 := (Below.refl w.heap.size w).alloc (Nat.le_refl _) (Obj.cells #[.string nm, .int .i64 st, .slice A bs.length c, .slice A2 gs.length c2] 25)
  have HQ := hd (blk_new w #[.string nm, .int .i64 st, .slice A bs.length c, .slice A2 gs.length c2] 25)
  have HB := hd hb1
  have RL := hd ((HL.out.below hb1 (Nat.le_refl _)).mono hb1.size)
  have RG := hd ((HG.out.below hb1 (Nat.le_refl _)).mono hb1.size)
  clear hb1
  go_enter Tryz.func5, Tryz.ntmps5
  go_wp2_with fail
  generalize w.alloc (Obj.cells #[.string nm, .int .i64 st, .slice A bs.length c, .slice A2 gs.length c2] 25) = W1 at *
  refine (HA.out _).mono ?_
  rintro e z0 ⟨rfl, hb⟩
  replace HQ := hd ((hb.block _ (blk_lt HQ.out)).trans HQ.out)
  replace HB := hd (HB.out.trans (hb.mono HB.out.size))
  replace RL := hd ((RL.out.below hb (Nat.le_refl _)).mono hb.size)
  replace RG := hd ((RG.out.below hb (Nat.le_refl _)).mono hb.size)
  clear hb
  have k0 := blk_cell HQ.out 0
  have k1 := blk_cell HQ.out 1
  have k2 := blk_cell HQ.out 2
  have k3 := blk_cell HQ.out 3
  simp at k0 k1 k2 k3
  go_wp2_with fail
  refine (short_any nm st A A2 bs.length c gs.length c2 _).mono ?_
  rw [S1.out]
  rintro e z1 ⟨rfl, hb⟩
  replace HQ := hd ((hb.block _ (blk_lt HQ.out)).trans HQ.out)
  replace HB := hd (HB.out.trans (hb.mono HB.out.size))
  replace RL := hd ((RL.out.below hb (Nat.le_refl _)).mono hb.size)
  replace RG := hd ((RG.out.below hb (Nat.le_refl _)).mono hb.size)
  clear hb
  clear k0 k1 k2 k3
  have k0 := blk_cell HQ.out 0
  have k1 := blk_cell HQ.out 1
  have k2 := blk_cell HQ.out 2
  have k3 := blk_cell HQ.out 3
  simp at k0 k1 k2 k3
  go_wp2_with fail
  refine (lawRecord_any nm st _ _ bs gs _ RL.out RG.out FL.out FG.out HN.out.1 HN.out.2).mono ?_
  rintro e z2 ⟨u1, u2, rfl, hu1, hu2, -, -, hb⟩
  have U1 := hd hu1
  have U2 := hd hu2
  clear hu1 hu2
  replace HQ := hd ((hb.block _ (blk_lt HQ.out)).trans HQ.out)
  replace HB := hd (HB.out.trans (hb.mono HB.out.size))
  replace RL := hd ((RL.out.below hb (Nat.le_refl _)).mono hb.size)
  replace RG := hd ((RG.out.below hb (Nat.le_refl _)).mono hb.size)
  clear hb
  clear k0 k1 k2 k3
  go_wp2_with fail
  refine (GH.out _ _ _ U1.out U2.out).mono ?_
  rintro e z3 ⟨v0, rfl, hv, hb⟩
  have RH := hd hv
  clear hv U1 U2
  replace HQ := hd ((hb.block _ (blk_lt HQ.out)).trans HQ.out)
  replace HB := hd (HB.out.trans (hb.mono HB.out.size))
  replace RL := hd ((RL.out.below hb (Nat.le_refl _)).mono hb.size)
  replace RG := hd ((RG.out.below hb (Nat.le_refl _)).mono hb.size)
  clear hb
  have k0 := blk_cell HQ.out 0
  have k1 := blk_cell HQ.out 1
  have k2 := blk_cell HQ.out 2
  have k3 := blk_cell HQ.out 3
  simp at k0 k1 k2 k3
  go_wp2_with fail
  refine (lawRecord_any nm st _ _ bs gs _ RL.out RG.out FL.out FG.out HN.out.1 HN.out.2).mono ?_
  rintro e z4 ⟨u1, u2, rfl, hu1, hu2, -, -, hb⟩
  have U1 := hd hu1
  have U2 := hd hu2
  clear hu1 hu2
  replace HQ := hd ((hb.block _ (blk_lt HQ.out)).trans HQ.out)
  replace HB := hd (HB.out.trans (hb.mono HB.out.size))
  replace RL := hd ((RL.out.below hb (Nat.le_refl _)).mono hb.size)
  replace RG := hd ((RG.out.below hb (Nat.le_refl _)).mono hb.size)
  replace RH := hd ((RH.out.below hb (Nat.le_refl _)).mono hb.size)
  clear hb
  clear k0 k1 k2 k3
  go_wp2_with fail
  refine (GL.out _ _ _ U1.out U2.out).mono ?_
  rintro e z5 ⟨v1, rfl, hv, hb⟩
  have RO := hd hv
  clear hv U1 U2
  replace HQ := hd ((hb.block _ (blk_lt HQ.out)).trans HQ.out)
  replace HB := hd (HB.out.trans (hb.mono HB.out.size))
  replace RL := hd ((RL.out.below hb (Nat.le_refl _)).mono hb.size)
  replace RG := hd ((RG.out.below hb (Nat.le_refl _)).mono hb.size)
  replace RH := hd ((RH.out.below hb (Nat.le_refl _)).mono hb.size)
  clear hb
  have k0 := blk_cell HQ.out 0
  have k1 := blk_cell HQ.out 1
  have k2 := blk_cell HQ.out 2
  have k3 := blk_cell HQ.out 3
  simp at k0 k1 k2 k3
  go_wp2_with fail
  refine (lawRecord_any nm st _ _ bs gs _ RL.out RG.out FL.out FG.out HN.out.1 HN.out.2).mono ?_
  rintro e z6 ⟨u1, u2, rfl, hu1, hu2, -, -, hb⟩
  have U1 := hd hu1
  have U2 := hd hu2
  clear hu1 hu2
  replace HQ := hd ((hb.block _ (blk_lt HQ.out)).trans HQ.out)
  replace HB := hd (HB.out.trans (hb.mono HB.out.size))
  replace RL := hd ((RL.out.below hb (Nat.le_refl _)).mono hb.size)
  replace RG := hd ((RG.out.below hb (Nat.le_refl _)).mono hb.size)
  replace RH := hd ((RH.out.below hb (Nat.le_refl _)).mono hb.size)
  replace RO := hd ((RO.out.below hb (Nat.le_refl _)).mono hb.size)
  clear hb
  clear k0 k1 k2 k3
  go_wp2_with fail
  refine (GA.out _ _ _ U1.out U2.out).mono ?_
  rintro e z7 ⟨v2, rfl, hv, hb⟩
  have RB := hd hv
  clear hv U1 U2
  replace HQ := hd ((hb.block _ (blk_lt HQ.out)).trans HQ.out)
  replace HB := hd (HB.out.trans (hb.mono HB.out.size))
  replace RL := hd ((RL.out.below hb (Nat.le_refl _)).mono hb.size)
  replace RG := hd ((RG.out.below hb (Nat.le_refl _)).mono hb.size)
  replace RH := hd ((RH.out.below hb (Nat.le_refl _)).mono hb.size)
  replace RO := hd ((RO.out.below hb (Nat.le_refl _)).mono hb.size)
  clear hb
  have k0 := blk_cell HQ.out 0
  have k1 := blk_cell HQ.out 1
  have k2 := blk_cell HQ.out 2
  have k3 := blk_cell HQ.out 3
  simp at k0 k1 k2 k3
  go_wp2_with fail
  refine (lawRecord_any nm st _ _ bs gs _ RL.out RG.out FL.out FG.out HN.out.1 HN.out.2).mono ?_
  rintro e z8 ⟨u1, u2, rfl, hu1, hu2, -, -, hb⟩
  have U1 := hd hu1
  have U2 := hd hu2
  clear hu1 hu2
  replace HQ := hd ((hb.block _ (blk_lt HQ.out)).trans HQ.out)
  replace HB := hd (HB.out.trans (hb.mono HB.out.size))
  replace RL := hd ((RL.out.below hb (Nat.le_refl _)).mono hb.size)
  replace RG := hd ((RG.out.below hb (Nat.le_refl _)).mono hb.size)
  replace RH := hd ((RH.out.below hb (Nat.le_refl _)).mono hb.size)
  replace RO := hd ((RO.out.below hb (Nat.le_refl _)).mono hb.size)
  replace RB := hd ((RB.out.below hb (Nat.le_refl _)).mono hb.size)
  clear hb
  clear k0 k1 k2 k3
  go_wp2_with fail
  refine (GS.out _ _ _ U1.out U2.out).mono ?_
  rintro e z9 ⟨rfl, hb⟩
  clear U1 U2
  replace HQ := hd ((hb.block _ (blk_lt HQ.out)).trans HQ.out)
  replace HB := hd (HB.out.trans (hb.mono HB.out.size))
  replace RL := hd ((RL.out.below hb (Nat.le_refl _)).mono hb.size)
  replace RG := hd ((RG.out.below hb (Nat.le_refl _)).mono hb.size)
  replace RH := hd ((RH.out.below hb (Nat.le_refl _)).mono hb.size)
  replace RO := hd ((RO.out.below hb (Nat.le_refl _)).mono hb.size)
  replace RB := hd ((RB.out.below hb (Nat.le_refl _)).mono hb.size)
  clear hb
  have k0 := blk_cell HQ.out 0
  have k1 := blk_cell HQ.out 1
  have k2 := blk_cell HQ.out 2
  have k3 := blk_cell HQ.out 3
  simp at k0 k1 k2 k3
  have m0 := cell_alloc_old (o := (Obj.cells #[.int .i64 cn, .int .i64 sm, .float .f32 lo, .float .f32 hi] 67)) k0
  have m1 := cell_alloc_old (o := (Obj.cells #[.int .i64 cn, .int .i64 sm, .float .f32 lo, .float .f32 hi] 67)) k1
  have m2 := cell_alloc_old (o := (Obj.cells #[.int .i64 cn, .int .i64 sm, .float .f32 lo, .float .f32 hi] 67)) k2
  have m3 := cell_alloc_old (o := (Obj.cells #[.int .i64 cn, .int .i64 sm, .float .f32 lo, .float .f32 hi] 67)) k3
  go_wp2_with fail
  clear k0 k1 k2 k3
  clear m0 m1 m2 m3
  have hb := (Below.refl z9.heap.size z9).alloc (Nat.le_refl _) (Obj.cells #[.int .i64 cn, .int .i64 sm, .float .f32 lo, .float .f32 hi] 67)
  have HS := hd (blk_new z9 #[.int .i64 cn, .int .i64 sm, .float .f32 lo, .float .f32 hi] 67)
  replace HQ := hd ((hb.block _ (blk_lt HQ.out)).trans HQ.out)
  replace HB := hd (HB.out.trans (hb.mono HB.out.size))
  replace RL := hd ((RL.out.below hb (Nat.le_refl _)).mono hb.size)
  replace RG := hd ((RG.out.below hb (Nat.le_refl _)).mono hb.size)
  replace RH := hd ((RH.out.below hb (Nat.le_refl _)).mono hb.size)
  replace RO := hd ((RO.out.below hb (Nat.le_refl _)).mono hb.size)
  replace RB := hd ((RB.out.below hb (Nat.le_refl _)).mono hb.size)
  clear hb
  generalize hsb : z9.heap.size = sb at *
  generalize z9.alloc (Obj.cells #[.int .i64 cn, .int .i64 sm, .float .f32 lo, .float .f32 hi] 67) = W2 at *
  clear hsb
  refine (CR.out _ _ _ RL.out RG.out).mono ?_
  rintro e z10 ⟨rfl, hb⟩
  replace HQ := hd ((hb.block _ (blk_lt HQ.out)).trans HQ.out)
  replace HS := hd ((hb.block _ (blk_lt HS.out)).trans HS.out)
  replace HB := hd (HB.out.trans (hb.mono HB.out.size))
  replace RL := hd ((RL.out.below hb (Nat.le_refl _)).mono hb.size)
  replace RG := hd ((RG.out.below hb (Nat.le_refl _)).mono hb.size)
  replace RH := hd ((RH.out.below hb (Nat.le_refl _)).mono hb.size)
  replace RO := hd ((RO.out.below hb (Nat.le_refl _)).mono hb.size)
  replace RB := hd ((RB.out.below hb (Nat.le_refl _)).mono hb.size)
  clear hb
  go_wp2_with fail
  refine (refRange_any wd 1 4096 _).mono ?_
  rintro e z11 ⟨rfl, hb⟩
  replace HQ := hd ((hb.block _ (blk_lt HQ.out)).trans HQ.out)
  replace HS := hd ((hb.block _ (blk_lt HS.out)).trans HS.out)
  replace HB := hd (HB.out.trans (hb.mono HB.out.size))
  replace RL := hd ((RL.out.below hb (Nat.le_refl _)).mono hb.size)
  replace RG := hd ((RG.out.below hb (Nat.le_refl _)).mono hb.size)
  replace RH := hd ((RH.out.below hb (Nat.le_refl _)).mono hb.size)
  replace RO := hd ((RO.out.below hb (Nat.le_refl _)).mono hb.size)
  replace RB := hd ((RB.out.below hb (Nat.le_refl _)).mono hb.size)
  clear hb
  go_wp2_with fail
  have hb := (Below.refl z11.heap.size z11).alloc (Nat.le_refl _) (Obj.cells #[.int .i64 E, .int .i64 (rng wd 1 4096)] 3)
  have hR := hd (Rd.new z11 #[.int .i64 E, .int .i64 (rng wd 1 4096)] 3 2 ([E, rng wd 1 4096].map (Value.int .i64)) rfl (by decide))
  replace HQ := hd ((hb.block _ (blk_lt HQ.out)).trans HQ.out)
  replace HS := hd ((hb.block _ (blk_lt HS.out)).trans HS.out)
  replace HB := hd (HB.out.trans (hb.mono HB.out.size))
  replace RL := hd ((RL.out.below hb (Nat.le_refl _)).mono hb.size)
  replace RG := hd ((RG.out.below hb (Nat.le_refl _)).mono hb.size)
  replace RH := hd ((RH.out.below hb (Nat.le_refl _)).mono hb.size)
  replace RO := hd ((RO.out.below hb (Nat.le_refl _)).mono hb.size)
  replace RB := hd ((RB.out.below hb (Nat.le_refl _)).mono hb.size)
  clear hb
  generalize z11.alloc (Obj.cells #[.int .i64 E, .int .i64 (rng wd 1 4096)] 3) = V0 at *
  refine (lawFirst_any _ [E, rng wd 1 4096] _ hR.out).mono ?_
  rw [H1.out]
  rintro e w' ⟨rfl, rfl⟩
  clear hR
  go_wp2_with fail
  refine (rLev_any lev _).mono ?_
  rintro e z13 ⟨rfl, hb⟩
  replace HQ := hd ((hb.block _ (blk_lt HQ.out)).trans HQ.out)
  replace HS := hd ((hb.block _ (blk_lt HS.out)).trans HS.out)
  replace HB := hd (HB.out.trans (hb.mono HB.out.size))
  replace RL := hd ((RL.out.below hb (Nat.le_refl _)).mono hb.size)
  replace RG := hd ((RG.out.below hb (Nat.le_refl _)).mono hb.size)
  replace RH := hd ((RH.out.below hb (Nat.le_refl _)).mono hb.size)
  replace RO := hd ((RO.out.below hb (Nat.le_refl _)).mono hb.size)
  replace RB := hd ((RB.out.below hb (Nat.le_refl _)).mono hb.size)
  clear hb
  go_wp2_with fail
  have hb := (Below.refl z13.heap.size z13).alloc (Nat.le_refl _) (Obj.cells #[.int .i64 E, .int .i64 (chkLev lev)] 3)
  have hR := hd (Rd.new z13 #[.int .i64 E, .int .i64 (chkLev lev)] 3 2 ([E, chkLev lev].map (Value.int .i64)) rfl (by decide))
  replace HQ := hd ((hb.block _ (blk_lt HQ.out)).trans HQ.out)
  replace HS := hd ((hb.block _ (blk_lt HS.out)).trans HS.out)
  replace HB := hd (HB.out.trans (hb.mono HB.out.size))
  replace RL := hd ((RL.out.below hb (Nat.le_refl _)).mono hb.size)
  replace RG := hd ((RG.out.below hb (Nat.le_refl _)).mono hb.size)
  replace RH := hd ((RH.out.below hb (Nat.le_refl _)).mono hb.size)
  replace RO := hd ((RO.out.below hb (Nat.le_refl _)).mono hb.size)
  replace RB := hd ((RB.out.below hb (Nat.le_refl _)).mono hb.size)
  clear hb
  generalize z13.alloc (Obj.cells #[.int .i64 E, .int .i64 (chkLev lev)] 3) = V1 at *
  refine (lawFirst_any _ [E, chkLev lev] _ hR.out).mono ?_
  rw [H3.out]
  rintro e w' ⟨rfl, rfl⟩
  clear hR
  have k0 := blk_cell HQ.out 0
  have k1 := blk_cell HQ.out 1
  have k2 := blk_cell HQ.out 2
  have k3 := blk_cell HQ.out 3
  simp at k0 k1 k2 k3
  have m0 := cell_alloc_old (o := (Obj.cells #[.int .i64 0, .int .i64 0, .float .f32 0, .float .f32 0] 71)) k0
  have m1 := cell_alloc_old (o := (Obj.cells #[.int .i64 0, .int .i64 0, .float .f32 0, .float .f32 0] 71)) k1
  have m2 := cell_alloc_old (o := (Obj.cells #[.int .i64 0, .int .i64 0, .float .f32 0, .float .f32 0] 71)) k2
  have m3 := cell_alloc_old (o := (Obj.cells #[.int .i64 0, .int .i64 0, .float .f32 0, .float .f32 0] 71)) k3
  go_wp2_with fail
  clear k0 k1 k2 k3
  clear m0 m1 m2 m3
  have HBV := hd HB.out
  have QH := hd RH.out
  have QO := hd RO.out
  have QB := hd RB.out
  have hb := (Below.refl V1.heap.size V1).alloc (Nat.le_refl _) (Obj.cells #[.int .i64 0, .int .i64 0, .float .f32 0, .float .f32 0] 71)
  have HY := hd hb
  have SY := hd (show V1.heap.size < (V1.alloc (Obj.cells #[.int .i64 0, .int .i64 0, .float .f32 0, .float .f32 0] 71)).heap.size by simp)
  have HT := hd (blk_new V1 #[.int .i64 0, .int .i64 0, .float .f32 0, .float .f32 0] 71)
  have hsne : sb ≠ V1.heap.size := by have := blk_lt HS.out; omega
  replace HQ := hd ((hb.block _ (blk_lt HQ.out)).trans HQ.out)
  replace HS := hd ((hb.block _ (blk_lt HS.out)).trans HS.out)
  replace HB := hd (HB.out.trans (hb.mono HB.out.size))
  replace RL := hd ((RL.out.below hb (Nat.le_refl _)).mono hb.size)
  replace RG := hd ((RG.out.below hb (Nat.le_refl _)).mono hb.size)
  replace RH := hd ((RH.out.below hb (Nat.le_refl _)).mono hb.size)
  replace RO := hd ((RO.out.below hb (Nat.le_refl _)).mono hb.size)
  replace RB := hd ((RB.out.below hb (Nat.le_refl _)).mono hb.size)
  clear hb
  generalize V1.alloc (Obj.cells #[.int .i64 0, .int .i64 0, .float .f32 0, .float .f32 0] 71) = W5 at *
  have HZ := hd (Nat.le_refl W5.heap.size)
  have k0 := blk_cell HQ.out 0
  have k1 := blk_cell HQ.out 1
  have k2 := blk_cell HQ.out 2
  have k3 := blk_cell HQ.out 3
  simp at k0 k1 k2 k3
  have hq5 := blk_lt HQ.out
  go_region_held3 (fun x => x.cell? ⟨w.heap.size, 0, none⟩ = some (.string nm) ∧ x.cell? ⟨w.heap.size, 1, none⟩ = some (.int .i64 st) ∧ x.cell? ⟨w.heap.size, 2, none⟩ = some (.slice A bs.length c) ∧ x.cell? ⟨w.heap.size, 3, none⟩ = some (.slice A2 gs.length c2)) (go_keep) (first | (go_at_call 32; refine (RV.out _ _ _ ((RL.out.below HX1.out (Nat.le_refl _)).mono HX1.out.size) ((RG.out.below HX1.out (Nat.le_refl _)).mono HX1.out.size)).mono ?_; rintro e y2 ⟨r2, rfl, hv, hb⟩; have hX : Below W5.heap.size W5 y2 := HX1.out.trans (hb.mono HX1.out.size); have hq := (hX.block _ hq5).trans HQ.out; have q20 := blk_cell hq 0; have q21 := blk_cell hq 1; have q22 := blk_cell hq 2; have q23 := blk_cell hq 3; simp at q20 q21 q22 q23; have HX2 := hd hX; have P2 := hd (And.intro (own_bel P1.out hb) hv); clear hX hq hb hv q10 q11 q12 q13) | (go_at_call 32; refine (RW.out _ _ _ ((RL.out.below ((Below.refl W5.heap.size W5).drew) (Nat.le_refl _)).mono ((Below.refl W5.heap.size W5).drew).size) ((RG.out.below ((Below.refl W5.heap.size W5).drew) (Nat.le_refl _)).mono ((Below.refl W5.heap.size W5).drew).size)).mono ?_; rintro e y1 ⟨r1, rfl, hv, hb⟩; have hX : Below W5.heap.size W5 y1 := ((Below.refl W5.heap.size W5).drew).trans (hb.mono ((Below.refl W5.heap.size W5).drew).size); have hq := (hX.block _ hq5).trans HQ.out; have q10 := blk_cell hq 0; have q11 := blk_cell hq 1; have q12 := blk_cell hq 2; have q13 := blk_cell hq 3; simp at q10 q11 q12 q13; have HX1 := hd hX; have P1 := hd hv; clear hX hq hb hv k0 k1 k2 k3))
  have hb := HX2.out
  have S1' := hd (show W5.heap.size ≤ y1.heap.size from HX1.out.size)
  have PA := hd (own_base (B' := W5.heap.size) P2.out.1 (Nat.le_refl _))
  have PB := hd (own_base (B' := W5.heap.size) P2.out.2 S1'.out)
  replace SY := hd SY.out
  have SW := hd SY.out
  clear P1 P2 HX1 HX2 S1' hq5 q20 q21 q22 q23
  replace HY := hd (HY.out.trans (hb.mono HY.out.size))
  replace HZ := hd (Nat.le_trans HZ.out hb.size)
  replace HQ := hd ((hb.block _ (blk_lt HQ.out)).trans HQ.out)
  replace HS := hd ((hb.block _ (blk_lt HS.out)).trans HS.out)
  replace HT := hd ((hb.block _ (blk_lt HT.out)).trans HT.out)
  replace HB := hd (HB.out.trans (hb.mono HB.out.size))
  replace RL := hd ((RL.out.below hb (Nat.le_refl _)).mono hb.size)
  replace RG := hd ((RG.out.below hb (Nat.le_refl _)).mono hb.size)
  replace RH := hd ((RH.out.below hb (Nat.le_refl _)).mono hb.size)
  replace RO := hd ((RO.out.below hb (Nat.le_refl _)).mono hb.size)
  replace RB := hd ((RB.out.below hb (Nat.le_refl _)).mono hb.size)
  clear hb
  have k0 := blk_cell HQ.out 0
  have k1 := blk_cell HQ.out 1
  have k2 := blk_cell HQ.out 2
  have k3 := blk_cell HQ.out 3
  simp at k0 k1 k2 k3
  go_wp2_with fail
  clear k0 k1 k2 k3
  refine (RA.out _ _ _ RL.out RG.out).mono ?_
  rintro e z15 ⟨r3, rfl, hv, hb⟩
  have PC := hd (own_base (B' := W5.heap.size) hv HZ.out)
  clear hv
  replace HY := hd (HY.out.trans (hb.mono HY.out.size))
  replace HZ := hd (Nat.le_trans HZ.out hb.size)
  replace PA := hd (own_bel PA.out hb)
  replace PB := hd (own_bel PB.out hb)
  replace HQ := hd ((hb.block _ (blk_lt HQ.out)).trans HQ.out)
  replace HS := hd ((hb.block _ (blk_lt HS.out)).trans HS.out)
  replace HT := hd ((hb.block _ (blk_lt HT.out)).trans HT.out)
  replace HB := hd (HB.out.trans (hb.mono HB.out.size))
  replace RL := hd ((RL.out.below hb (Nat.le_refl _)).mono hb.size)
  replace RG := hd ((RG.out.below hb (Nat.le_refl _)).mono hb.size)
  replace RH := hd ((RH.out.below hb (Nat.le_refl _)).mono hb.size)
  replace RO := hd ((RO.out.below hb (Nat.le_refl _)).mono hb.size)
  replace RB := hd ((RB.out.below hb (Nat.le_refl _)).mono hb.size)
  clear hb
  have k0 := blk_cell HQ.out 0
  have k1 := blk_cell HQ.out 1
  have k2 := blk_cell HQ.out 2
  have k3 := blk_cell HQ.out 3
  simp at k0 k1 k2 k3
  go_wp2_with fail
  clear k0 k1 k2 k3
  refine (RS.out _ _ _ RL.out RG.out).mono ?_
  rintro e z16 ⟨rfl, hb⟩
  replace HY := hd (HY.out.trans (hb.mono HY.out.size))
  replace HZ := hd (Nat.le_trans HZ.out hb.size)
  replace PA := hd (own_bel PA.out hb)
  replace PB := hd (own_bel PB.out hb)
  replace PC := hd (own_bel PC.out hb)
  replace HQ := hd ((hb.block _ (blk_lt HQ.out)).trans HQ.out)
  replace HS := hd ((hb.block _ (blk_lt HS.out)).trans HS.out)
  replace HT := hd ((hb.block _ (blk_lt HT.out)).trans HT.out)
  replace HB := hd (HB.out.trans (hb.mono HB.out.size))
  replace RL := hd ((RL.out.below hb (Nat.le_refl _)).mono hb.size)
  replace RG := hd ((RG.out.below hb (Nat.le_refl _)).mono hb.size)
  replace RH := hd ((RH.out.below hb (Nat.le_refl _)).mono hb.size)
  replace RO := hd ((RO.out.below hb (Nat.le_refl _)).mono hb.size)
  replace RB := hd ((RB.out.below hb (Nat.le_refl _)).mono hb.size)
  clear hb
  have c0 := blk_cell HT.out 0
  have c1 := blk_cell HT.out 1
  have c2 := blk_cell HT.out 2
  have c3 := blk_cell HT.out 3
  simp at c0 c1 c2 c3
  have f0 := blk_frozen HT.out 0
  have f1 := blk_frozen HT.out 1
  have f2 := blk_frozen HT.out 2
  have f3 := blk_frozen HT.out 3
  go_wp2_with fail
  clear c0 c1 c2 c3 f0 f1 f2 f3
  have HT2 := hd (set4_blk HT.out (.int .i64 cn) (.int .i64 sm) (.float .f32 lo') (.float .f32 hi'))
  have HS2 := hd ((set4_other z16 (R := V1.heap.size) (D := sb) hsne (.int .i64 cn) (.int .i64 sm) (.float .f32 lo') (.float .f32 hi')).trans HS.out)
  have hb9 := set4_below HY.out (R := V1.heap.size) (Nat.le_refl _) (.int .i64 cn) (.int .i64 sm) (.float .f32 lo') (.float .f32 hi')
  have U1 := hd (rd_of_own (own_set4 (R := V1.heap.size) (a := .int .i64 cn) (b := .int .i64 sm) (c := .float .f32 lo') (d := .float .f32 hi') PA.out SY.out))
  have U2 := hd (rd_of_own (own_set4 (R := V1.heap.size) (a := .int .i64 cn) (b := .int .i64 sm) (c := .float .f32 lo') (d := .float .f32 hi') PB.out SY.out))
  have U3 := hd (rd_of_own (own_set4 (R := V1.heap.size) (a := .int .i64 cn) (b := .int .i64 sm) (c := .float .f32 lo') (d := .float .f32 hi') PC.out SY.out))
  clear HT HS HY HB RH RO RB RL RG HQ
  clear PA PB PC
  have HY := hd hb9
  clear hb9
  change Calls _ _ _ (set4 z16 V1.heap.size (.int .i64 cn) (.int .i64 sm) (.float .f32 lo') (.float .f32 hi')) _
  generalize set4 z16 V1.heap.size (.int .i64 cn) (.int .i64 sm) (.float .f32 lo') (.float .f32 hi') = Z at *
  have HB := hd (HBV.out.trans (HY.out.mono HBV.out.size))
  have RH := hd ((QH.out.below HY.out (Nat.le_refl _)).mono HY.out.size)
  have RO := hd ((QO.out.below HY.out (Nat.le_refl _)).mono HY.out.size)
  have RB := hd ((QB.out.below HY.out (Nat.le_refl _)).mono HY.out.size)
  refine (sameInts_any _ _ LH LH _ RH.out U1.out).mono ?_
  rw [sameF_refl]
  rintro e z17 ⟨rfl, hb⟩
  replace HS2 := hd ((hb.block _ (blk_lt HS2.out)).trans HS2.out)
  replace HT2 := hd ((hb.block _ (blk_lt HT2.out)).trans HT2.out)
  replace HB := hd (HB.out.trans (hb.mono HB.out.size))
  replace RH := hd ((RH.out.below hb (Nat.le_refl _)).mono hb.size)
  replace RO := hd ((RO.out.below hb (Nat.le_refl _)).mono hb.size)
  replace RB := hd ((RB.out.below hb (Nat.le_refl _)).mono hb.size)
  replace U1 := hd ((U1.out.below hb (Nat.le_refl _)).mono hb.size)
  replace U2 := hd ((U2.out.below hb (Nat.le_refl _)).mono hb.size)
  replace U3 := hd ((U3.out.below hb (Nat.le_refl _)).mono hb.size)
  clear hb
  go_wp2_with fail
  refine (sameInts_any _ _ LO LO _ RO.out U2.out).mono ?_
  rw [sameF_refl]
  rintro e z18 ⟨rfl, hb⟩
  replace HS2 := hd ((hb.block _ (blk_lt HS2.out)).trans HS2.out)
  replace HT2 := hd ((hb.block _ (blk_lt HT2.out)).trans HT2.out)
  replace HB := hd (HB.out.trans (hb.mono HB.out.size))
  replace RH := hd ((RH.out.below hb (Nat.le_refl _)).mono hb.size)
  replace RO := hd ((RO.out.below hb (Nat.le_refl _)).mono hb.size)
  replace RB := hd ((RB.out.below hb (Nat.le_refl _)).mono hb.size)
  replace U1 := hd ((U1.out.below hb (Nat.le_refl _)).mono hb.size)
  replace U2 := hd ((U2.out.below hb (Nat.le_refl _)).mono hb.size)
  replace U3 := hd ((U3.out.below hb (Nat.le_refl _)).mono hb.size)
  clear hb
  go_wp2_with fail
  refine (sameSpans_any _ _ LA LA _ RB.out U3.out).mono ?_
  rw [sm_refl]
  rintro e z19 ⟨rfl, hb⟩
  replace HS2 := hd ((hb.block _ (blk_lt HS2.out)).trans HS2.out)
  replace HT2 := hd ((hb.block _ (blk_lt HT2.out)).trans HT2.out)
  replace HB := hd (HB.out.trans (hb.mono HB.out.size))
  replace RH := hd ((RH.out.below hb (Nat.le_refl _)).mono hb.size)
  replace RO := hd ((RO.out.below hb (Nat.le_refl _)).mono hb.size)
  replace RB := hd ((RB.out.below hb (Nat.le_refl _)).mono hb.size)
  replace U1 := hd ((U1.out.below hb (Nat.le_refl _)).mono hb.size)
  replace U2 := hd ((U2.out.below hb (Nat.le_refl _)).mono hb.size)
  replace U3 := hd ((U3.out.below hb (Nat.le_refl _)).mono hb.size)
  clear hb
  have s0 := blk_cell HS2.out 0
  have s1 := blk_cell HS2.out 1
  have s2 := blk_cell HS2.out 2
  have s3 := blk_cell HS2.out 3
  have t0 := blk_cell HT2.out 0
  have t1 := blk_cell HT2.out 1
  have t2 := blk_cell HT2.out 2
  have t3 := blk_cell HT2.out 3
  simp at s0 s1 s2 s3 t0 t1 t2 t3
  go_wp2_with fail
  go_returns
  exact ⟨rfl, HB.out⟩

set_option maxRecDepth 1000000 in
set_option maxHeartbeats 16000000 in
theorem waters_011 (HA : Hid Awake) (nm : ByteArray) (st wd : Int) (lev : Nat) (A A2 : Option Addr) (c c2 : Nat) (bs : List Nat) (gs : List (Int × Int))  (LA : List (Int × Int)) (E x1 x3 : Int) (cn sm e4 : Int) (lo hi lo' hi' : Nat) (w : World)
    (HL : Hid (Rd w w.heap.size (.slice A bs.length c) bs.length (flc bs))) (HG : Hid (Rd w w.heap.size (.slice A2 gs.length c2) gs.length (spc gs))) (FL : Hid (Full (.slice A bs.length c))) (FG : Hid (Full (.slice A2 gs.length c2)))
    (S1 : Hid (shortR nm.size bs.length gs.length = true)) (HN : Hid (bs.length ≤ 100000 ∧ gs.length ≤ 100000))
    (CR : Hid (∀ (W : World) (lv gv : Value), Rd W W.heap.size lv bs.length (flc bs) → Rd W W.heap.size gv gs.length (spc gs) → Calls Tryz.prog 15 #[.agg #[.string nm, .int .i64 st, lv, gv]] W fun e w' => e = .returned (.int .i64 E) ∧ Below W.heap.size W w'))
    (H1 : Hid (fst0 [E, rng wd 1 4096] = x1)) (h1 : (x1 == 0) = false) (H3 : Hid (fst0 [E, chkLev lev] = x3)) (h3 : (x3 == 0) = true) (h4 : (E == 0) = true)
    (GH : Hid (∀ (W : World) (lv gv : Value), Rd W W.heap.size lv bs.length (flc bs) → Rd W W.heap.size gv gs.length (spc gs) → Calls Tryz.prog 27 #[.agg #[.string nm, .int .i64 st, lv, gv], .int .i64 wd] W (GotI [] x1 W)))
    (GL : Hid (∀ (W : World) (lv gv : Value), Rd W W.heap.size lv bs.length (flc bs) → Rd W W.heap.size gv gs.length (spc gs) → Calls Tryz.prog 28 #[.agg #[.string nm, .int .i64 st, lv, gv], .int .i64 wd] W (GotI [] x1 W)))
    (GA : Hid (∀ (W : World) (lv gv : Value), Rd W W.heap.size lv bs.length (flc bs) → Rd W W.heap.size gv gs.length (spc gs) → Calls Tryz.prog 29 #[.agg #[.string nm, .int .i64 st, lv, gv], .float .f32 lev] W (GotS LA x3 W)))
    (GS : Hid (∀ (W : World) (lv gv : Value), Rd W W.heap.size lv bs.length (flc bs) → Rd W W.heap.size gv gs.length (spc gs) → Calls Tryz.prog 30 #[.agg #[.string nm, .int .i64 st, lv, gv]] W fun e w' => e = .returned (.tuple #[.agg #[.int .i64 cn, .int .i64 sm, .float .f32 lo, .float .f32 hi], .int .i64 e4]) ∧ Below W.heap.size W w'))
    (RA : Hid (∀ (W : World) (lv gv : Value), Rd W W.heap.size lv bs.length (flc bs) → Rd W W.heap.size gv gs.length (spc gs) → Calls Tryz.prog 33 #[.agg #[.string nm, .int .i64 st, lv, gv], .float .f32 lev] W (OwnsSp W.heap.size LA W)))
    (RS : Hid (∀ (W : World) (lv gv : Value), Rd W W.heap.size lv bs.length (flc bs) → Rd W W.heap.size gv gs.length (spc gs) → Calls Tryz.prog 34 #[.agg #[.string nm, .int .i64 st, lv, gv]] W fun e w' => e = .returned (.tuple #[.agg #[.int .i64 cn, .int .i64 sm, .float .f32 lo', .float .f32 hi'], .int .i64 e4]) ∧ Below W.heap.size W w'))
    (hlo : feqL lo lo' = true) (hhi : feqL hi hi' = true) :
    Calls Tryz.prog 5 #[.agg #[.string nm, .int .i64 st, .slice A bs.length c, .slice A2 gs.length c2], .int .i64 wd, .float .f32 lev] w fun e w' => e = .returned (.bool true) ∧ Below w.heap.size w w' := by
  have hE1 := fun w => (eqFl 9998 lo lo' w).trans (by rw [hlo])
  have hE2 := fun w => (eqFl 9998 hi hi' w).trans (by rw [hhi])
  clear hlo hhi
  have hc4 : bs.length ≤ c ∧ c ≤ 9223372036854775807 := by obtain ⟨A', c', e, h1, h2, -⟩ := HL.out; cases e; unfold maxLen at h2; omega
  obtain ⟨hc5, hc6⟩ := hc4
  have hb1 := (Below.refl w.heap.size w).alloc (Nat.le_refl _) (Obj.cells #[.string nm, .int .i64 st, .slice A bs.length c, .slice A2 gs.length c2] 25)
  have HQ := hd (blk_new w #[.string nm, .int .i64 st, .slice A bs.length c, .slice A2 gs.length c2] 25)
  have HB := hd hb1
  have RL := hd ((HL.out.below hb1 (Nat.le_refl _)).mono hb1.size)
  have RG := hd ((HG.out.below hb1 (Nat.le_refl _)).mono hb1.size)
  clear hb1
  go_enter Tryz.func5, Tryz.ntmps5
  go_wp2_with fail
  generalize w.alloc (Obj.cells #[.string nm, .int .i64 st, .slice A bs.length c, .slice A2 gs.length c2] 25) = W1 at *
  refine (HA.out _).mono ?_
  rintro e z0 ⟨rfl, hb⟩
  replace HQ := hd ((hb.block _ (blk_lt HQ.out)).trans HQ.out)
  replace HB := hd (HB.out.trans (hb.mono HB.out.size))
  replace RL := hd ((RL.out.below hb (Nat.le_refl _)).mono hb.size)
  replace RG := hd ((RG.out.below hb (Nat.le_refl _)).mono hb.size)
  clear hb
  have k0 := blk_cell HQ.out 0
  have k1 := blk_cell HQ.out 1
  have k2 := blk_cell HQ.out 2
  have k3 := blk_cell HQ.out 3
  simp at k0 k1 k2 k3
  go_wp2_with fail
  refine (short_any nm st A A2 bs.length c gs.length c2 _).mono ?_
  rw [S1.out]
  rintro e z1 ⟨rfl, hb⟩
  replace HQ := hd ((hb.block _ (blk_lt HQ.out)).trans HQ.out)
  replace HB := hd (HB.out.trans (hb.mono HB.out.size))
  replace RL := hd ((RL.out.below hb (Nat.le_refl _)).mono hb.size)
  replace RG := hd ((RG.out.below hb (Nat.le_refl _)).mono hb.size)
  clear hb
  clear k0 k1 k2 k3
  have k0 := blk_cell HQ.out 0
  have k1 := blk_cell HQ.out 1
  have k2 := blk_cell HQ.out 2
  have k3 := blk_cell HQ.out 3
  simp at k0 k1 k2 k3
  go_wp2_with fail
  refine (lawRecord_any nm st _ _ bs gs _ RL.out RG.out FL.out FG.out HN.out.1 HN.out.2).mono ?_
  rintro e z2 ⟨u1, u2, rfl, hu1, hu2, -, -, hb⟩
  have U1 := hd hu1
  have U2 := hd hu2
  clear hu1 hu2
  replace HQ := hd ((hb.block _ (blk_lt HQ.out)).trans HQ.out)
  replace HB := hd (HB.out.trans (hb.mono HB.out.size))
  replace RL := hd ((RL.out.below hb (Nat.le_refl _)).mono hb.size)
  replace RG := hd ((RG.out.below hb (Nat.le_refl _)).mono hb.size)
  clear hb
  clear k0 k1 k2 k3
  go_wp2_with fail
  refine (GH.out _ _ _ U1.out U2.out).mono ?_
  rintro e z3 ⟨v0, rfl, hv, hb⟩
  have RH := hd hv
  clear hv U1 U2
  replace HQ := hd ((hb.block _ (blk_lt HQ.out)).trans HQ.out)
  replace HB := hd (HB.out.trans (hb.mono HB.out.size))
  replace RL := hd ((RL.out.below hb (Nat.le_refl _)).mono hb.size)
  replace RG := hd ((RG.out.below hb (Nat.le_refl _)).mono hb.size)
  clear hb
  have k0 := blk_cell HQ.out 0
  have k1 := blk_cell HQ.out 1
  have k2 := blk_cell HQ.out 2
  have k3 := blk_cell HQ.out 3
  simp at k0 k1 k2 k3
  go_wp2_with fail
  refine (lawRecord_any nm st _ _ bs gs _ RL.out RG.out FL.out FG.out HN.out.1 HN.out.2).mono ?_
  rintro e z4 ⟨u1, u2, rfl, hu1, hu2, -, -, hb⟩
  have U1 := hd hu1
  have U2 := hd hu2
  clear hu1 hu2
  replace HQ := hd ((hb.block _ (blk_lt HQ.out)).trans HQ.out)
  replace HB := hd (HB.out.trans (hb.mono HB.out.size))
  replace RL := hd ((RL.out.below hb (Nat.le_refl _)).mono hb.size)
  replace RG := hd ((RG.out.below hb (Nat.le_refl _)).mono hb.size)
  replace RH := hd ((RH.out.below hb (Nat.le_refl _)).mono hb.size)
  clear hb
  clear k0 k1 k2 k3
  go_wp2_with fail
  refine (GL.out _ _ _ U1.out U2.out).mono ?_
  rintro e z5 ⟨v1, rfl, hv, hb⟩
  have RO := hd hv
  clear hv U1 U2
  replace HQ := hd ((hb.block _ (blk_lt HQ.out)).trans HQ.out)
  replace HB := hd (HB.out.trans (hb.mono HB.out.size))
  replace RL := hd ((RL.out.below hb (Nat.le_refl _)).mono hb.size)
  replace RG := hd ((RG.out.below hb (Nat.le_refl _)).mono hb.size)
  replace RH := hd ((RH.out.below hb (Nat.le_refl _)).mono hb.size)
  clear hb
  have k0 := blk_cell HQ.out 0
  have k1 := blk_cell HQ.out 1
  have k2 := blk_cell HQ.out 2
  have k3 := blk_cell HQ.out 3
  simp at k0 k1 k2 k3
  go_wp2_with fail
  refine (lawRecord_any nm st _ _ bs gs _ RL.out RG.out FL.out FG.out HN.out.1 HN.out.2).mono ?_
  rintro e z6 ⟨u1, u2, rfl, hu1, hu2, -, -, hb⟩
  have U1 := hd hu1
  have U2 := hd hu2
  clear hu1 hu2
  replace HQ := hd ((hb.block _ (blk_lt HQ.out)).trans HQ.out)
  replace HB := hd (HB.out.trans (hb.mono HB.out.size))
  replace RL := hd ((RL.out.below hb (Nat.le_refl _)).mono hb.size)
  replace RG := hd ((RG.out.below hb (Nat.le_refl _)).mono hb.size)
  replace RH := hd ((RH.out.below hb (Nat.le_refl _)).mono hb.size)
  replace RO := hd ((RO.out.below hb (Nat.le_refl _)).mono hb.size)
  clear hb
  clear k0 k1 k2 k3
  go_wp2_with fail
  refine (GA.out _ _ _ U1.out U2.out).mono ?_
  rintro e z7 ⟨v2, rfl, hv, hb⟩
  have RB := hd hv
  clear hv U1 U2
  replace HQ := hd ((hb.block _ (blk_lt HQ.out)).trans HQ.out)
  replace HB := hd (HB.out.trans (hb.mono HB.out.size))
  replace RL := hd ((RL.out.below hb (Nat.le_refl _)).mono hb.size)
  replace RG := hd ((RG.out.below hb (Nat.le_refl _)).mono hb.size)
  replace RH := hd ((RH.out.below hb (Nat.le_refl _)).mono hb.size)
  replace RO := hd ((RO.out.below hb (Nat.le_refl _)).mono hb.size)
  clear hb
  have k0 := blk_cell HQ.out 0
  have k1 := blk_cell HQ.out 1
  have k2 := blk_cell HQ.out 2
  have k3 := blk_cell HQ.out 3
  simp at k0 k1 k2 k3
  go_wp2_with fail
  refine (lawRecord_any nm st _ _ bs gs _ RL.out RG.out FL.out FG.out HN.out.1 HN.out.2).mono ?_
  rintro e z8 ⟨u1, u2, rfl, hu1, hu2, -, -, hb⟩
  have U1 := hd hu1
  have U2 := hd hu2
  clear hu1 hu2
  replace HQ := hd ((hb.block _ (blk_lt HQ.out)).trans HQ.out)
  replace HB := hd (HB.out.trans (hb.mono HB.out.size))
  replace RL := hd ((RL.out.below hb (Nat.le_refl _)).mono hb.size)
  replace RG := hd ((RG.out.below hb (Nat.le_refl _)).mono hb.size)
  replace RH := hd ((RH.out.below hb (Nat.le_refl _)).mono hb.size)
  replace RO := hd ((RO.out.below hb (Nat.le_refl _)).mono hb.size)
  replace RB := hd ((RB.out.below hb (Nat.le_refl _)).mono hb.size)
  clear hb
  clear k0 k1 k2 k3
  go_wp2_with fail
  refine (GS.out _ _ _ U1.out U2.out).mono ?_
  rintro e z9 ⟨rfl, hb⟩
  clear U1 U2
  replace HQ := hd ((hb.block _ (blk_lt HQ.out)).trans HQ.out)
  replace HB := hd (HB.out.trans (hb.mono HB.out.size))
  replace RL := hd ((RL.out.below hb (Nat.le_refl _)).mono hb.size)
  replace RG := hd ((RG.out.below hb (Nat.le_refl _)).mono hb.size)
  replace RH := hd ((RH.out.below hb (Nat.le_refl _)).mono hb.size)
  replace RO := hd ((RO.out.below hb (Nat.le_refl _)).mono hb.size)
  replace RB := hd ((RB.out.below hb (Nat.le_refl _)).mono hb.size)
  clear hb
  have k0 := blk_cell HQ.out 0
  have k1 := blk_cell HQ.out 1
  have k2 := blk_cell HQ.out 2
  have k3 := blk_cell HQ.out 3
  simp at k0 k1 k2 k3
  have m0 := cell_alloc_old (o := (Obj.cells #[.int .i64 cn, .int .i64 sm, .float .f32 lo, .float .f32 hi] 67)) k0
  have m1 := cell_alloc_old (o := (Obj.cells #[.int .i64 cn, .int .i64 sm, .float .f32 lo, .float .f32 hi] 67)) k1
  have m2 := cell_alloc_old (o := (Obj.cells #[.int .i64 cn, .int .i64 sm, .float .f32 lo, .float .f32 hi] 67)) k2
  have m3 := cell_alloc_old (o := (Obj.cells #[.int .i64 cn, .int .i64 sm, .float .f32 lo, .float .f32 hi] 67)) k3
  go_wp2_with fail
  clear k0 k1 k2 k3
  clear m0 m1 m2 m3
  have hb := (Below.refl z9.heap.size z9).alloc (Nat.le_refl _) (Obj.cells #[.int .i64 cn, .int .i64 sm, .float .f32 lo, .float .f32 hi] 67)
  have HS := hd (blk_new z9 #[.int .i64 cn, .int .i64 sm, .float .f32 lo, .float .f32 hi] 67)
  replace HQ := hd ((hb.block _ (blk_lt HQ.out)).trans HQ.out)
  replace HB := hd (HB.out.trans (hb.mono HB.out.size))
  replace RL := hd ((RL.out.below hb (Nat.le_refl _)).mono hb.size)
  replace RG := hd ((RG.out.below hb (Nat.le_refl _)).mono hb.size)
  replace RH := hd ((RH.out.below hb (Nat.le_refl _)).mono hb.size)
  replace RO := hd ((RO.out.below hb (Nat.le_refl _)).mono hb.size)
  replace RB := hd ((RB.out.below hb (Nat.le_refl _)).mono hb.size)
  clear hb
  generalize hsb : z9.heap.size = sb at *
  generalize z9.alloc (Obj.cells #[.int .i64 cn, .int .i64 sm, .float .f32 lo, .float .f32 hi] 67) = W2 at *
  clear hsb
  refine (CR.out _ _ _ RL.out RG.out).mono ?_
  rintro e z10 ⟨rfl, hb⟩
  replace HQ := hd ((hb.block _ (blk_lt HQ.out)).trans HQ.out)
  replace HS := hd ((hb.block _ (blk_lt HS.out)).trans HS.out)
  replace HB := hd (HB.out.trans (hb.mono HB.out.size))
  replace RL := hd ((RL.out.below hb (Nat.le_refl _)).mono hb.size)
  replace RG := hd ((RG.out.below hb (Nat.le_refl _)).mono hb.size)
  replace RH := hd ((RH.out.below hb (Nat.le_refl _)).mono hb.size)
  replace RO := hd ((RO.out.below hb (Nat.le_refl _)).mono hb.size)
  replace RB := hd ((RB.out.below hb (Nat.le_refl _)).mono hb.size)
  clear hb
  go_wp2_with fail
  refine (refRange_any wd 1 4096 _).mono ?_
  rintro e z11 ⟨rfl, hb⟩
  replace HQ := hd ((hb.block _ (blk_lt HQ.out)).trans HQ.out)
  replace HS := hd ((hb.block _ (blk_lt HS.out)).trans HS.out)
  replace HB := hd (HB.out.trans (hb.mono HB.out.size))
  replace RL := hd ((RL.out.below hb (Nat.le_refl _)).mono hb.size)
  replace RG := hd ((RG.out.below hb (Nat.le_refl _)).mono hb.size)
  replace RH := hd ((RH.out.below hb (Nat.le_refl _)).mono hb.size)
  replace RO := hd ((RO.out.below hb (Nat.le_refl _)).mono hb.size)
  replace RB := hd ((RB.out.below hb (Nat.le_refl _)).mono hb.size)
  clear hb
  go_wp2_with fail
  have hb := (Below.refl z11.heap.size z11).alloc (Nat.le_refl _) (Obj.cells #[.int .i64 E, .int .i64 (rng wd 1 4096)] 3)
  have hR := hd (Rd.new z11 #[.int .i64 E, .int .i64 (rng wd 1 4096)] 3 2 ([E, rng wd 1 4096].map (Value.int .i64)) rfl (by decide))
  replace HQ := hd ((hb.block _ (blk_lt HQ.out)).trans HQ.out)
  replace HS := hd ((hb.block _ (blk_lt HS.out)).trans HS.out)
  replace HB := hd (HB.out.trans (hb.mono HB.out.size))
  replace RL := hd ((RL.out.below hb (Nat.le_refl _)).mono hb.size)
  replace RG := hd ((RG.out.below hb (Nat.le_refl _)).mono hb.size)
  replace RH := hd ((RH.out.below hb (Nat.le_refl _)).mono hb.size)
  replace RO := hd ((RO.out.below hb (Nat.le_refl _)).mono hb.size)
  replace RB := hd ((RB.out.below hb (Nat.le_refl _)).mono hb.size)
  clear hb
  generalize z11.alloc (Obj.cells #[.int .i64 E, .int .i64 (rng wd 1 4096)] 3) = V0 at *
  refine (lawFirst_any _ [E, rng wd 1 4096] _ hR.out).mono ?_
  rw [H1.out]
  rintro e w' ⟨rfl, rfl⟩
  clear hR
  go_wp2_with fail
  refine (rLev_any lev _).mono ?_
  rintro e z13 ⟨rfl, hb⟩
  replace HQ := hd ((hb.block _ (blk_lt HQ.out)).trans HQ.out)
  replace HS := hd ((hb.block _ (blk_lt HS.out)).trans HS.out)
  replace HB := hd (HB.out.trans (hb.mono HB.out.size))
  replace RL := hd ((RL.out.below hb (Nat.le_refl _)).mono hb.size)
  replace RG := hd ((RG.out.below hb (Nat.le_refl _)).mono hb.size)
  replace RH := hd ((RH.out.below hb (Nat.le_refl _)).mono hb.size)
  replace RO := hd ((RO.out.below hb (Nat.le_refl _)).mono hb.size)
  replace RB := hd ((RB.out.below hb (Nat.le_refl _)).mono hb.size)
  clear hb
  go_wp2_with fail
  have hb := (Below.refl z13.heap.size z13).alloc (Nat.le_refl _) (Obj.cells #[.int .i64 E, .int .i64 (chkLev lev)] 3)
  have hR := hd (Rd.new z13 #[.int .i64 E, .int .i64 (chkLev lev)] 3 2 ([E, chkLev lev].map (Value.int .i64)) rfl (by decide))
  replace HQ := hd ((hb.block _ (blk_lt HQ.out)).trans HQ.out)
  replace HS := hd ((hb.block _ (blk_lt HS.out)).trans HS.out)
  replace HB := hd (HB.out.trans (hb.mono HB.out.size))
  replace RL := hd ((RL.out.below hb (Nat.le_refl _)).mono hb.size)
  replace RG := hd ((RG.out.below hb (Nat.le_refl _)).mono hb.size)
  replace RH := hd ((RH.out.below hb (Nat.le_refl _)).mono hb.size)
  replace RO := hd ((RO.out.below hb (Nat.le_refl _)).mono hb.size)
  replace RB := hd ((RB.out.below hb (Nat.le_refl _)).mono hb.size)
  clear hb
  generalize z13.alloc (Obj.cells #[.int .i64 E, .int .i64 (chkLev lev)] 3) = V1 at *
  refine (lawFirst_any _ [E, chkLev lev] _ hR.out).mono ?_
  rw [H3.out]
  rintro e w' ⟨rfl, rfl⟩
  clear hR
  have k0 := blk_cell HQ.out 0
  have k1 := blk_cell HQ.out 1
  have k2 := blk_cell HQ.out 2
  have k3 := blk_cell HQ.out 3
  simp at k0 k1 k2 k3
  have m0 := cell_alloc_old (o := (Obj.cells #[.int .i64 0, .int .i64 0, .float .f32 0, .float .f32 0] 71)) k0
  have m1 := cell_alloc_old (o := (Obj.cells #[.int .i64 0, .int .i64 0, .float .f32 0, .float .f32 0] 71)) k1
  have m2 := cell_alloc_old (o := (Obj.cells #[.int .i64 0, .int .i64 0, .float .f32 0, .float .f32 0] 71)) k2
  have m3 := cell_alloc_old (o := (Obj.cells #[.int .i64 0, .int .i64 0, .float .f32 0, .float .f32 0] 71)) k3
  go_wp2_with fail
  clear k0 k1 k2 k3
  clear m0 m1 m2 m3
  have HBV := hd HB.out
  have QH := hd RH.out
  have QO := hd RO.out
  have QB := hd RB.out
  have hb := (Below.refl V1.heap.size V1).alloc (Nat.le_refl _) (Obj.cells #[.int .i64 0, .int .i64 0, .float .f32 0, .float .f32 0] 71)
  have HY := hd hb
  have SY := hd (show V1.heap.size < (V1.alloc (Obj.cells #[.int .i64 0, .int .i64 0, .float .f32 0, .float .f32 0] 71)).heap.size by simp)
  have HT := hd (blk_new V1 #[.int .i64 0, .int .i64 0, .float .f32 0, .float .f32 0] 71)
  have hsne : sb ≠ V1.heap.size := by have := blk_lt HS.out; omega
  replace HQ := hd ((hb.block _ (blk_lt HQ.out)).trans HQ.out)
  replace HS := hd ((hb.block _ (blk_lt HS.out)).trans HS.out)
  replace HB := hd (HB.out.trans (hb.mono HB.out.size))
  replace RL := hd ((RL.out.below hb (Nat.le_refl _)).mono hb.size)
  replace RG := hd ((RG.out.below hb (Nat.le_refl _)).mono hb.size)
  replace RH := hd ((RH.out.below hb (Nat.le_refl _)).mono hb.size)
  replace RO := hd ((RO.out.below hb (Nat.le_refl _)).mono hb.size)
  replace RB := hd ((RB.out.below hb (Nat.le_refl _)).mono hb.size)
  clear hb
  generalize V1.alloc (Obj.cells #[.int .i64 0, .int .i64 0, .float .f32 0, .float .f32 0] 71) = W5 at *
  have HZ := hd (Nat.le_refl W5.heap.size)
  have SW := hd SY.out
  refine (RA.out _ _ _ RL.out RG.out).mono ?_
  rintro e z15 ⟨r3, rfl, hv, hb⟩
  have PC := hd (own_base (B' := W5.heap.size) hv HZ.out)
  clear hv
  replace HY := hd (HY.out.trans (hb.mono HY.out.size))
  replace HZ := hd (Nat.le_trans HZ.out hb.size)
  replace HQ := hd ((hb.block _ (blk_lt HQ.out)).trans HQ.out)
  replace HS := hd ((hb.block _ (blk_lt HS.out)).trans HS.out)
  replace HT := hd ((hb.block _ (blk_lt HT.out)).trans HT.out)
  replace HB := hd (HB.out.trans (hb.mono HB.out.size))
  replace RL := hd ((RL.out.below hb (Nat.le_refl _)).mono hb.size)
  replace RG := hd ((RG.out.below hb (Nat.le_refl _)).mono hb.size)
  replace RH := hd ((RH.out.below hb (Nat.le_refl _)).mono hb.size)
  replace RO := hd ((RO.out.below hb (Nat.le_refl _)).mono hb.size)
  replace RB := hd ((RB.out.below hb (Nat.le_refl _)).mono hb.size)
  clear hb
  have k0 := blk_cell HQ.out 0
  have k1 := blk_cell HQ.out 1
  have k2 := blk_cell HQ.out 2
  have k3 := blk_cell HQ.out 3
  simp at k0 k1 k2 k3
  go_wp2_with fail
  clear k0 k1 k2 k3
  refine (RS.out _ _ _ RL.out RG.out).mono ?_
  rintro e z16 ⟨rfl, hb⟩
  replace HY := hd (HY.out.trans (hb.mono HY.out.size))
  replace HZ := hd (Nat.le_trans HZ.out hb.size)
  replace PC := hd (own_bel PC.out hb)
  replace HQ := hd ((hb.block _ (blk_lt HQ.out)).trans HQ.out)
  replace HS := hd ((hb.block _ (blk_lt HS.out)).trans HS.out)
  replace HT := hd ((hb.block _ (blk_lt HT.out)).trans HT.out)
  replace HB := hd (HB.out.trans (hb.mono HB.out.size))
  replace RL := hd ((RL.out.below hb (Nat.le_refl _)).mono hb.size)
  replace RG := hd ((RG.out.below hb (Nat.le_refl _)).mono hb.size)
  replace RH := hd ((RH.out.below hb (Nat.le_refl _)).mono hb.size)
  replace RO := hd ((RO.out.below hb (Nat.le_refl _)).mono hb.size)
  replace RB := hd ((RB.out.below hb (Nat.le_refl _)).mono hb.size)
  clear hb
  have c0 := blk_cell HT.out 0
  have c1 := blk_cell HT.out 1
  have c2 := blk_cell HT.out 2
  have c3 := blk_cell HT.out 3
  simp at c0 c1 c2 c3
  have f0 := blk_frozen HT.out 0
  have f1 := blk_frozen HT.out 1
  have f2 := blk_frozen HT.out 2
  have f3 := blk_frozen HT.out 3
  go_wp2_with fail
  clear c0 c1 c2 c3 f0 f1 f2 f3
  have HT2 := hd (set4_blk HT.out (.int .i64 cn) (.int .i64 sm) (.float .f32 lo') (.float .f32 hi'))
  have HS2 := hd ((set4_other z16 (R := V1.heap.size) (D := sb) hsne (.int .i64 cn) (.int .i64 sm) (.float .f32 lo') (.float .f32 hi')).trans HS.out)
  have hb9 := set4_below HY.out (R := V1.heap.size) (Nat.le_refl _) (.int .i64 cn) (.int .i64 sm) (.float .f32 lo') (.float .f32 hi')
  have U3 := hd (rd_of_own (own_set4 (R := V1.heap.size) (a := .int .i64 cn) (b := .int .i64 sm) (c := .float .f32 lo') (d := .float .f32 hi') PC.out SY.out))
  clear HT HS HY HB RH RO RB RL RG HQ
  clear PC
  have HY := hd hb9
  clear hb9
  change Calls _ _ _ (set4 z16 V1.heap.size (.int .i64 cn) (.int .i64 sm) (.float .f32 lo') (.float .f32 hi')) _
  generalize set4 z16 V1.heap.size (.int .i64 cn) (.int .i64 sm) (.float .f32 lo') (.float .f32 hi') = Z at *
  have HB := hd (HBV.out.trans (HY.out.mono HBV.out.size))
  have RH := hd ((QH.out.below HY.out (Nat.le_refl _)).mono HY.out.size)
  have RO := hd ((QO.out.below HY.out (Nat.le_refl _)).mono HY.out.size)
  have RB := hd ((QB.out.below HY.out (Nat.le_refl _)).mono HY.out.size)
  have U1 := hd (Rd.nil Z Z.heap.size)
  have U2 := hd (Rd.nil Z Z.heap.size)
  refine (sameInts_any _ _ [] [] _ RH.out U1.out).mono ?_
  rw [sameF_refl]
  rintro e z17 ⟨rfl, hb⟩
  replace HS2 := hd ((hb.block _ (blk_lt HS2.out)).trans HS2.out)
  replace HT2 := hd ((hb.block _ (blk_lt HT2.out)).trans HT2.out)
  replace HB := hd (HB.out.trans (hb.mono HB.out.size))
  replace RH := hd ((RH.out.below hb (Nat.le_refl _)).mono hb.size)
  replace RO := hd ((RO.out.below hb (Nat.le_refl _)).mono hb.size)
  replace RB := hd ((RB.out.below hb (Nat.le_refl _)).mono hb.size)
  replace U1 := hd ((U1.out.below hb (Nat.le_refl _)).mono hb.size)
  replace U2 := hd ((U2.out.below hb (Nat.le_refl _)).mono hb.size)
  replace U3 := hd ((U3.out.below hb (Nat.le_refl _)).mono hb.size)
  clear hb
  go_wp2_with fail
  refine (sameInts_any _ _ [] [] _ RO.out U2.out).mono ?_
  rw [sameF_refl]
  rintro e z18 ⟨rfl, hb⟩
  replace HS2 := hd ((hb.block _ (blk_lt HS2.out)).trans HS2.out)
  replace HT2 := hd ((hb.block _ (blk_lt HT2.out)).trans HT2.out)
  replace HB := hd (HB.out.trans (hb.mono HB.out.size))
  replace RH := hd ((RH.out.below hb (Nat.le_refl _)).mono hb.size)
  replace RO := hd ((RO.out.below hb (Nat.le_refl _)).mono hb.size)
  replace RB := hd ((RB.out.below hb (Nat.le_refl _)).mono hb.size)
  replace U1 := hd ((U1.out.below hb (Nat.le_refl _)).mono hb.size)
  replace U2 := hd ((U2.out.below hb (Nat.le_refl _)).mono hb.size)
  replace U3 := hd ((U3.out.below hb (Nat.le_refl _)).mono hb.size)
  clear hb
  go_wp2_with fail
  refine (sameSpans_any _ _ LA LA _ RB.out U3.out).mono ?_
  rw [sm_refl]
  rintro e z19 ⟨rfl, hb⟩
  replace HS2 := hd ((hb.block _ (blk_lt HS2.out)).trans HS2.out)
  replace HT2 := hd ((hb.block _ (blk_lt HT2.out)).trans HT2.out)
  replace HB := hd (HB.out.trans (hb.mono HB.out.size))
  replace RH := hd ((RH.out.below hb (Nat.le_refl _)).mono hb.size)
  replace RO := hd ((RO.out.below hb (Nat.le_refl _)).mono hb.size)
  replace RB := hd ((RB.out.below hb (Nat.le_refl _)).mono hb.size)
  replace U1 := hd ((U1.out.below hb (Nat.le_refl _)).mono hb.size)
  replace U2 := hd ((U2.out.below hb (Nat.le_refl _)).mono hb.size)
  replace U3 := hd ((U3.out.below hb (Nat.le_refl _)).mono hb.size)
  clear hb
  have s0 := blk_cell HS2.out 0
  have s1 := blk_cell HS2.out 1
  have s2 := blk_cell HS2.out 2
  have s3 := blk_cell HS2.out 3
  have t0 := blk_cell HT2.out 0
  have t1 := blk_cell HT2.out 1
  have t2 := blk_cell HT2.out 2
  have t3 := blk_cell HT2.out 3
  simp at s0 s1 s2 s3 t0 t1 t2 t3
  go_wp2_with fail
  go_returns
  exact ⟨rfl, HB.out⟩

set_option maxRecDepth 1000000 in
set_option maxHeartbeats 16000000 in
theorem waters_101 (HA : Hid Awake) (nm : ByteArray) (st wd : Int) (lev : Nat) (A A2 : Option Addr) (c c2 : Nat) (bs : List Nat) (gs : List (Int × Int)) (LH LO : List Int)  (E x1 x3 : Int) (cn sm e4 : Int) (lo hi lo' hi' : Nat) (w : World)
    (HL : Hid (Rd w w.heap.size (.slice A bs.length c) bs.length (flc bs))) (HG : Hid (Rd w w.heap.size (.slice A2 gs.length c2) gs.length (spc gs))) (FL : Hid (Full (.slice A bs.length c))) (FG : Hid (Full (.slice A2 gs.length c2)))
    (S1 : Hid (shortR nm.size bs.length gs.length = true)) (HN : Hid (bs.length ≤ 100000 ∧ gs.length ≤ 100000))
    (CR : Hid (∀ (W : World) (lv gv : Value), Rd W W.heap.size lv bs.length (flc bs) → Rd W W.heap.size gv gs.length (spc gs) → Calls Tryz.prog 15 #[.agg #[.string nm, .int .i64 st, lv, gv]] W fun e w' => e = .returned (.int .i64 E) ∧ Below W.heap.size W w'))
    (H1 : Hid (fst0 [E, rng wd 1 4096] = x1)) (h1 : (x1 == 0) = true) (H3 : Hid (fst0 [E, chkLev lev] = x3)) (h3 : (x3 == 0) = false) (h4 : (E == 0) = true)
    (GH : Hid (∀ (W : World) (lv gv : Value), Rd W W.heap.size lv bs.length (flc bs) → Rd W W.heap.size gv gs.length (spc gs) → Calls Tryz.prog 27 #[.agg #[.string nm, .int .i64 st, lv, gv], .int .i64 wd] W (GotI LH x1 W)))
    (GL : Hid (∀ (W : World) (lv gv : Value), Rd W W.heap.size lv bs.length (flc bs) → Rd W W.heap.size gv gs.length (spc gs) → Calls Tryz.prog 28 #[.agg #[.string nm, .int .i64 st, lv, gv], .int .i64 wd] W (GotI LO x1 W)))
    (GA : Hid (∀ (W : World) (lv gv : Value), Rd W W.heap.size lv bs.length (flc bs) → Rd W W.heap.size gv gs.length (spc gs) → Calls Tryz.prog 29 #[.agg #[.string nm, .int .i64 st, lv, gv], .float .f32 lev] W (GotS [] x3 W)))
    (GS : Hid (∀ (W : World) (lv gv : Value), Rd W W.heap.size lv bs.length (flc bs) → Rd W W.heap.size gv gs.length (spc gs) → Calls Tryz.prog 30 #[.agg #[.string nm, .int .i64 st, lv, gv]] W fun e w' => e = .returned (.tuple #[.agg #[.int .i64 cn, .int .i64 sm, .float .f32 lo, .float .f32 hi], .int .i64 e4]) ∧ Below W.heap.size W w'))
    (RW : Hid (∀ (W : World) (lv gv : Value), Rd W W.heap.size lv bs.length (flc bs) → Rd W W.heap.size gv gs.length (spc gs) → Calls Tryz.prog 32 #[.agg #[.string nm, .int .i64 st, lv, gv], .int .i64 wd, .float .f32 1065353216] W (OwnsIn W.heap.size LH W)))
    (RV : Hid (∀ (W : World) (lv gv : Value), Rd W W.heap.size lv bs.length (flc bs) → Rd W W.heap.size gv gs.length (spc gs) → Calls Tryz.prog 32 #[.agg #[.string nm, .int .i64 st, lv, gv], .int .i64 wd, .float .f32 3212836864] W (OwnsIn W.heap.size LO W)))
    (RS : Hid (∀ (W : World) (lv gv : Value), Rd W W.heap.size lv bs.length (flc bs) → Rd W W.heap.size gv gs.length (spc gs) → Calls Tryz.prog 34 #[.agg #[.string nm, .int .i64 st, lv, gv]] W fun e w' => e = .returned (.tuple #[.agg #[.int .i64 cn, .int .i64 sm, .float .f32 lo', .float .f32 hi'], .int .i64 e4]) ∧ Below W.heap.size W w'))
    (hlo : feqL lo lo' = true) (hhi : feqL hi hi' = true) :
    Calls Tryz.prog 5 #[.agg #[.string nm, .int .i64 st, .slice A bs.length c, .slice A2 gs.length c2], .int .i64 wd, .float .f32 lev] w fun e w' => e = .returned (.bool true) ∧ Below w.heap.size w w' := by
  have hE1 := fun w => (eqFl 9998 lo lo' w).trans (by rw [hlo])
  have hE2 := fun w => (eqFl 9998 hi hi' w).trans (by rw [hhi])
  clear hlo hhi
  have hc4 : bs.length ≤ c ∧ c ≤ 9223372036854775807 := by obtain ⟨A', c', e, h1, h2, -⟩ := HL.out; cases e; unfold maxLen at h2; omega
  obtain ⟨hc5, hc6⟩ := hc4
  have hb1 := (Below.refl w.heap.size w).alloc (Nat.le_refl _) (Obj.cells #[.string nm, .int .i64 st, .slice A bs.length c, .slice A2 gs.length c2] 25)
  have HQ := hd (blk_new w #[.string nm, .int .i64 st, .slice A bs.length c, .slice A2 gs.length c2] 25)
  have HB := hd hb1
  have RL := hd ((HL.out.below hb1 (Nat.le_refl _)).mono hb1.size)
  have RG := hd ((HG.out.below hb1 (Nat.le_refl _)).mono hb1.size)
  clear hb1
  go_enter Tryz.func5, Tryz.ntmps5
  go_wp2_with fail
  generalize w.alloc (Obj.cells #[.string nm, .int .i64 st, .slice A bs.length c, .slice A2 gs.length c2] 25) = W1 at *
  refine (HA.out _).mono ?_
  rintro e z0 ⟨rfl, hb⟩
  replace HQ := hd ((hb.block _ (blk_lt HQ.out)).trans HQ.out)
  replace HB := hd (HB.out.trans (hb.mono HB.out.size))
  replace RL := hd ((RL.out.below hb (Nat.le_refl _)).mono hb.size)
  replace RG := hd ((RG.out.below hb (Nat.le_refl _)).mono hb.size)
  clear hb
  have k0 := blk_cell HQ.out 0
  have k1 := blk_cell HQ.out 1
  have k2 := blk_cell HQ.out 2
  have k3 := blk_cell HQ.out 3
  simp at k0 k1 k2 k3
  go_wp2_with fail
  refine (short_any nm st A A2 bs.length c gs.length c2 _).mono ?_
  rw [S1.out]
  rintro e z1 ⟨rfl, hb⟩
  replace HQ := hd ((hb.block _ (blk_lt HQ.out)).trans HQ.out)
  replace HB := hd (HB.out.trans (hb.mono HB.out.size))
  replace RL := hd ((RL.out.below hb (Nat.le_refl _)).mono hb.size)
  replace RG := hd ((RG.out.below hb (Nat.le_refl _)).mono hb.size)
  clear hb
  clear k0 k1 k2 k3
  have k0 := blk_cell HQ.out 0
  have k1 := blk_cell HQ.out 1
  have k2 := blk_cell HQ.out 2
  have k3 := blk_cell HQ.out 3
  simp at k0 k1 k2 k3
  go_wp2_with fail
  refine (lawRecord_any nm st _ _ bs gs _ RL.out RG.out FL.out FG.out HN.out.1 HN.out.2).mono ?_
  rintro e z2 ⟨u1, u2, rfl, hu1, hu2, -, -, hb⟩
  have U1 := hd hu1
  have U2 := hd hu2
  clear hu1 hu2
  replace HQ := hd ((hb.block _ (blk_lt HQ.out)).trans HQ.out)
  replace HB := hd (HB.out.trans (hb.mono HB.out.size))
  replace RL := hd ((RL.out.below hb (Nat.le_refl _)).mono hb.size)
  replace RG := hd ((RG.out.below hb (Nat.le_refl _)).mono hb.size)
  clear hb
  clear k0 k1 k2 k3
  go_wp2_with fail
  refine (GH.out _ _ _ U1.out U2.out).mono ?_
  rintro e z3 ⟨v0, rfl, hv, hb⟩
  have RH := hd hv
  clear hv U1 U2
  replace HQ := hd ((hb.block _ (blk_lt HQ.out)).trans HQ.out)
  replace HB := hd (HB.out.trans (hb.mono HB.out.size))
  replace RL := hd ((RL.out.below hb (Nat.le_refl _)).mono hb.size)
  replace RG := hd ((RG.out.below hb (Nat.le_refl _)).mono hb.size)
  clear hb
  have k0 := blk_cell HQ.out 0
  have k1 := blk_cell HQ.out 1
  have k2 := blk_cell HQ.out 2
  have k3 := blk_cell HQ.out 3
  simp at k0 k1 k2 k3
  go_wp2_with fail
  refine (lawRecord_any nm st _ _ bs gs _ RL.out RG.out FL.out FG.out HN.out.1 HN.out.2).mono ?_
  rintro e z4 ⟨u1, u2, rfl, hu1, hu2, -, -, hb⟩
  have U1 := hd hu1
  have U2 := hd hu2
  clear hu1 hu2
  replace HQ := hd ((hb.block _ (blk_lt HQ.out)).trans HQ.out)
  replace HB := hd (HB.out.trans (hb.mono HB.out.size))
  replace RL := hd ((RL.out.below hb (Nat.le_refl _)).mono hb.size)
  replace RG := hd ((RG.out.below hb (Nat.le_refl _)).mono hb.size)
  replace RH := hd ((RH.out.below hb (Nat.le_refl _)).mono hb.size)
  clear hb
  clear k0 k1 k2 k3
  go_wp2_with fail
  refine (GL.out _ _ _ U1.out U2.out).mono ?_
  rintro e z5 ⟨v1, rfl, hv, hb⟩
  have RO := hd hv
  clear hv U1 U2
  replace HQ := hd ((hb.block _ (blk_lt HQ.out)).trans HQ.out)
  replace HB := hd (HB.out.trans (hb.mono HB.out.size))
  replace RL := hd ((RL.out.below hb (Nat.le_refl _)).mono hb.size)
  replace RG := hd ((RG.out.below hb (Nat.le_refl _)).mono hb.size)
  replace RH := hd ((RH.out.below hb (Nat.le_refl _)).mono hb.size)
  clear hb
  have k0 := blk_cell HQ.out 0
  have k1 := blk_cell HQ.out 1
  have k2 := blk_cell HQ.out 2
  have k3 := blk_cell HQ.out 3
  simp at k0 k1 k2 k3
  go_wp2_with fail
  refine (lawRecord_any nm st _ _ bs gs _ RL.out RG.out FL.out FG.out HN.out.1 HN.out.2).mono ?_
  rintro e z6 ⟨u1, u2, rfl, hu1, hu2, -, -, hb⟩
  have U1 := hd hu1
  have U2 := hd hu2
  clear hu1 hu2
  replace HQ := hd ((hb.block _ (blk_lt HQ.out)).trans HQ.out)
  replace HB := hd (HB.out.trans (hb.mono HB.out.size))
  replace RL := hd ((RL.out.below hb (Nat.le_refl _)).mono hb.size)
  replace RG := hd ((RG.out.below hb (Nat.le_refl _)).mono hb.size)
  replace RH := hd ((RH.out.below hb (Nat.le_refl _)).mono hb.size)
  replace RO := hd ((RO.out.below hb (Nat.le_refl _)).mono hb.size)
  clear hb
  clear k0 k1 k2 k3
  go_wp2_with fail
  refine (GA.out _ _ _ U1.out U2.out).mono ?_
  rintro e z7 ⟨v2, rfl, hv, hb⟩
  have RB := hd hv
  clear hv U1 U2
  replace HQ := hd ((hb.block _ (blk_lt HQ.out)).trans HQ.out)
  replace HB := hd (HB.out.trans (hb.mono HB.out.size))
  replace RL := hd ((RL.out.below hb (Nat.le_refl _)).mono hb.size)
  replace RG := hd ((RG.out.below hb (Nat.le_refl _)).mono hb.size)
  replace RH := hd ((RH.out.below hb (Nat.le_refl _)).mono hb.size)
  replace RO := hd ((RO.out.below hb (Nat.le_refl _)).mono hb.size)
  clear hb
  have k0 := blk_cell HQ.out 0
  have k1 := blk_cell HQ.out 1
  have k2 := blk_cell HQ.out 2
  have k3 := blk_cell HQ.out 3
  simp at k0 k1 k2 k3
  go_wp2_with fail
  refine (lawRecord_any nm st _ _ bs gs _ RL.out RG.out FL.out FG.out HN.out.1 HN.out.2).mono ?_
  rintro e z8 ⟨u1, u2, rfl, hu1, hu2, -, -, hb⟩
  have U1 := hd hu1
  have U2 := hd hu2
  clear hu1 hu2
  replace HQ := hd ((hb.block _ (blk_lt HQ.out)).trans HQ.out)
  replace HB := hd (HB.out.trans (hb.mono HB.out.size))
  replace RL := hd ((RL.out.below hb (Nat.le_refl _)).mono hb.size)
  replace RG := hd ((RG.out.below hb (Nat.le_refl _)).mono hb.size)
  replace RH := hd ((RH.out.below hb (Nat.le_refl _)).mono hb.size)
  replace RO := hd ((RO.out.below hb (Nat.le_refl _)).mono hb.size)
  replace RB := hd ((RB.out.below hb (Nat.le_refl _)).mono hb.size)
  clear hb
  clear k0 k1 k2 k3
  go_wp2_with fail
  refine (GS.out _ _ _ U1.out U2.out).mono ?_
  rintro e z9 ⟨rfl, hb⟩
  clear U1 U2
  replace HQ := hd ((hb.block _ (blk_lt HQ.out)).trans HQ.out)
  replace HB := hd (HB.out.trans (hb.mono HB.out.size))
  replace RL := hd ((RL.out.below hb (Nat.le_refl _)).mono hb.size)
  replace RG := hd ((RG.out.below hb (Nat.le_refl _)).mono hb.size)
  replace RH := hd ((RH.out.below hb (Nat.le_refl _)).mono hb.size)
  replace RO := hd ((RO.out.below hb (Nat.le_refl _)).mono hb.size)
  replace RB := hd ((RB.out.below hb (Nat.le_refl _)).mono hb.size)
  clear hb
  have k0 := blk_cell HQ.out 0
  have k1 := blk_cell HQ.out 1
  have k2 := blk_cell HQ.out 2
  have k3 := blk_cell HQ.out 3
  simp at k0 k1 k2 k3
  have m0 := cell_alloc_old (o := (Obj.cells #[.int .i64 cn, .int .i64 sm, .float .f32 lo, .float .f32 hi] 67)) k0
  have m1 := cell_alloc_old (o := (Obj.cells #[.int .i64 cn, .int .i64 sm, .float .f32 lo, .float .f32 hi] 67)) k1
  have m2 := cell_alloc_old (o := (Obj.cells #[.int .i64 cn, .int .i64 sm, .float .f32 lo, .float .f32 hi] 67)) k2
  have m3 := cell_alloc_old (o := (Obj.cells #[.int .i64 cn, .int .i64 sm, .float .f32 lo, .float .f32 hi] 67)) k3
  go_wp2_with fail
  clear k0 k1 k2 k3
  clear m0 m1 m2 m3
  have hb := (Below.refl z9.heap.size z9).alloc (Nat.le_refl _) (Obj.cells #[.int .i64 cn, .int .i64 sm, .float .f32 lo, .float .f32 hi] 67)
  have HS := hd (blk_new z9 #[.int .i64 cn, .int .i64 sm, .float .f32 lo, .float .f32 hi] 67)
  replace HQ := hd ((hb.block _ (blk_lt HQ.out)).trans HQ.out)
  replace HB := hd (HB.out.trans (hb.mono HB.out.size))
  replace RL := hd ((RL.out.below hb (Nat.le_refl _)).mono hb.size)
  replace RG := hd ((RG.out.below hb (Nat.le_refl _)).mono hb.size)
  replace RH := hd ((RH.out.below hb (Nat.le_refl _)).mono hb.size)
  replace RO := hd ((RO.out.below hb (Nat.le_refl _)).mono hb.size)
  replace RB := hd ((RB.out.below hb (Nat.le_refl _)).mono hb.size)
  clear hb
  generalize hsb : z9.heap.size = sb at *
  generalize z9.alloc (Obj.cells #[.int .i64 cn, .int .i64 sm, .float .f32 lo, .float .f32 hi] 67) = W2 at *
  clear hsb
  refine (CR.out _ _ _ RL.out RG.out).mono ?_
  rintro e z10 ⟨rfl, hb⟩
  replace HQ := hd ((hb.block _ (blk_lt HQ.out)).trans HQ.out)
  replace HS := hd ((hb.block _ (blk_lt HS.out)).trans HS.out)
  replace HB := hd (HB.out.trans (hb.mono HB.out.size))
  replace RL := hd ((RL.out.below hb (Nat.le_refl _)).mono hb.size)
  replace RG := hd ((RG.out.below hb (Nat.le_refl _)).mono hb.size)
  replace RH := hd ((RH.out.below hb (Nat.le_refl _)).mono hb.size)
  replace RO := hd ((RO.out.below hb (Nat.le_refl _)).mono hb.size)
  replace RB := hd ((RB.out.below hb (Nat.le_refl _)).mono hb.size)
  clear hb
  go_wp2_with fail
  refine (refRange_any wd 1 4096 _).mono ?_
  rintro e z11 ⟨rfl, hb⟩
  replace HQ := hd ((hb.block _ (blk_lt HQ.out)).trans HQ.out)
  replace HS := hd ((hb.block _ (blk_lt HS.out)).trans HS.out)
  replace HB := hd (HB.out.trans (hb.mono HB.out.size))
  replace RL := hd ((RL.out.below hb (Nat.le_refl _)).mono hb.size)
  replace RG := hd ((RG.out.below hb (Nat.le_refl _)).mono hb.size)
  replace RH := hd ((RH.out.below hb (Nat.le_refl _)).mono hb.size)
  replace RO := hd ((RO.out.below hb (Nat.le_refl _)).mono hb.size)
  replace RB := hd ((RB.out.below hb (Nat.le_refl _)).mono hb.size)
  clear hb
  go_wp2_with fail
  have hb := (Below.refl z11.heap.size z11).alloc (Nat.le_refl _) (Obj.cells #[.int .i64 E, .int .i64 (rng wd 1 4096)] 3)
  have hR := hd (Rd.new z11 #[.int .i64 E, .int .i64 (rng wd 1 4096)] 3 2 ([E, rng wd 1 4096].map (Value.int .i64)) rfl (by decide))
  replace HQ := hd ((hb.block _ (blk_lt HQ.out)).trans HQ.out)
  replace HS := hd ((hb.block _ (blk_lt HS.out)).trans HS.out)
  replace HB := hd (HB.out.trans (hb.mono HB.out.size))
  replace RL := hd ((RL.out.below hb (Nat.le_refl _)).mono hb.size)
  replace RG := hd ((RG.out.below hb (Nat.le_refl _)).mono hb.size)
  replace RH := hd ((RH.out.below hb (Nat.le_refl _)).mono hb.size)
  replace RO := hd ((RO.out.below hb (Nat.le_refl _)).mono hb.size)
  replace RB := hd ((RB.out.below hb (Nat.le_refl _)).mono hb.size)
  clear hb
  generalize z11.alloc (Obj.cells #[.int .i64 E, .int .i64 (rng wd 1 4096)] 3) = V0 at *
  refine (lawFirst_any _ [E, rng wd 1 4096] _ hR.out).mono ?_
  rw [H1.out]
  rintro e w' ⟨rfl, rfl⟩
  clear hR
  go_wp2_with fail
  refine (rLev_any lev _).mono ?_
  rintro e z13 ⟨rfl, hb⟩
  replace HQ := hd ((hb.block _ (blk_lt HQ.out)).trans HQ.out)
  replace HS := hd ((hb.block _ (blk_lt HS.out)).trans HS.out)
  replace HB := hd (HB.out.trans (hb.mono HB.out.size))
  replace RL := hd ((RL.out.below hb (Nat.le_refl _)).mono hb.size)
  replace RG := hd ((RG.out.below hb (Nat.le_refl _)).mono hb.size)
  replace RH := hd ((RH.out.below hb (Nat.le_refl _)).mono hb.size)
  replace RO := hd ((RO.out.below hb (Nat.le_refl _)).mono hb.size)
  replace RB := hd ((RB.out.below hb (Nat.le_refl _)).mono hb.size)
  clear hb
  go_wp2_with fail
  have hb := (Below.refl z13.heap.size z13).alloc (Nat.le_refl _) (Obj.cells #[.int .i64 E, .int .i64 (chkLev lev)] 3)
  have hR := hd (Rd.new z13 #[.int .i64 E, .int .i64 (chkLev lev)] 3 2 ([E, chkLev lev].map (Value.int .i64)) rfl (by decide))
  replace HQ := hd ((hb.block _ (blk_lt HQ.out)).trans HQ.out)
  replace HS := hd ((hb.block _ (blk_lt HS.out)).trans HS.out)
  replace HB := hd (HB.out.trans (hb.mono HB.out.size))
  replace RL := hd ((RL.out.below hb (Nat.le_refl _)).mono hb.size)
  replace RG := hd ((RG.out.below hb (Nat.le_refl _)).mono hb.size)
  replace RH := hd ((RH.out.below hb (Nat.le_refl _)).mono hb.size)
  replace RO := hd ((RO.out.below hb (Nat.le_refl _)).mono hb.size)
  replace RB := hd ((RB.out.below hb (Nat.le_refl _)).mono hb.size)
  clear hb
  generalize z13.alloc (Obj.cells #[.int .i64 E, .int .i64 (chkLev lev)] 3) = V1 at *
  refine (lawFirst_any _ [E, chkLev lev] _ hR.out).mono ?_
  rw [H3.out]
  rintro e w' ⟨rfl, rfl⟩
  clear hR
  have k0 := blk_cell HQ.out 0
  have k1 := blk_cell HQ.out 1
  have k2 := blk_cell HQ.out 2
  have k3 := blk_cell HQ.out 3
  simp at k0 k1 k2 k3
  have m0 := cell_alloc_old (o := (Obj.cells #[.int .i64 0, .int .i64 0, .float .f32 0, .float .f32 0] 71)) k0
  have m1 := cell_alloc_old (o := (Obj.cells #[.int .i64 0, .int .i64 0, .float .f32 0, .float .f32 0] 71)) k1
  have m2 := cell_alloc_old (o := (Obj.cells #[.int .i64 0, .int .i64 0, .float .f32 0, .float .f32 0] 71)) k2
  have m3 := cell_alloc_old (o := (Obj.cells #[.int .i64 0, .int .i64 0, .float .f32 0, .float .f32 0] 71)) k3
  go_wp2_with fail
  clear k0 k1 k2 k3
  clear m0 m1 m2 m3
  have HBV := hd HB.out
  have QH := hd RH.out
  have QO := hd RO.out
  have QB := hd RB.out
  have hb := (Below.refl V1.heap.size V1).alloc (Nat.le_refl _) (Obj.cells #[.int .i64 0, .int .i64 0, .float .f32 0, .float .f32 0] 71)
  have HY := hd hb
  have SY := hd (show V1.heap.size < (V1.alloc (Obj.cells #[.int .i64 0, .int .i64 0, .float .f32 0, .float .f32 0] 71)).heap.size by simp)
  have HT := hd (blk_new V1 #[.int .i64 0, .int .i64 0, .float .f32 0, .float .f32 0] 71)
  have hsne : sb ≠ V1.heap.size := by have := blk_lt HS.out; omega
  replace HQ := hd ((hb.block _ (blk_lt HQ.out)).trans HQ.out)
  replace HS := hd ((hb.block _ (blk_lt HS.out)).trans HS.out)
  replace HB := hd (HB.out.trans (hb.mono HB.out.size))
  replace RL := hd ((RL.out.below hb (Nat.le_refl _)).mono hb.size)
  replace RG := hd ((RG.out.below hb (Nat.le_refl _)).mono hb.size)
  replace RH := hd ((RH.out.below hb (Nat.le_refl _)).mono hb.size)
  replace RO := hd ((RO.out.below hb (Nat.le_refl _)).mono hb.size)
  replace RB := hd ((RB.out.below hb (Nat.le_refl _)).mono hb.size)
  clear hb
  generalize V1.alloc (Obj.cells #[.int .i64 0, .int .i64 0, .float .f32 0, .float .f32 0] 71) = W5 at *
  have HZ := hd (Nat.le_refl W5.heap.size)
  have k0 := blk_cell HQ.out 0
  have k1 := blk_cell HQ.out 1
  have k2 := blk_cell HQ.out 2
  have k3 := blk_cell HQ.out 3
  simp at k0 k1 k2 k3
  have hq5 := blk_lt HQ.out
  go_region_held3 (fun x => x.cell? ⟨w.heap.size, 0, none⟩ = some (.string nm) ∧ x.cell? ⟨w.heap.size, 1, none⟩ = some (.int .i64 st) ∧ x.cell? ⟨w.heap.size, 2, none⟩ = some (.slice A bs.length c) ∧ x.cell? ⟨w.heap.size, 3, none⟩ = some (.slice A2 gs.length c2)) (go_keep) (first | (go_at_call 32; refine (RV.out _ _ _ ((RL.out.below HX1.out (Nat.le_refl _)).mono HX1.out.size) ((RG.out.below HX1.out (Nat.le_refl _)).mono HX1.out.size)).mono ?_; rintro e y2 ⟨r2, rfl, hv, hb⟩; have hX : Below W5.heap.size W5 y2 := HX1.out.trans (hb.mono HX1.out.size); have hq := (hX.block _ hq5).trans HQ.out; have q20 := blk_cell hq 0; have q21 := blk_cell hq 1; have q22 := blk_cell hq 2; have q23 := blk_cell hq 3; simp at q20 q21 q22 q23; have HX2 := hd hX; have P2 := hd (And.intro (own_bel P1.out hb) hv); clear hX hq hb hv q10 q11 q12 q13) | (go_at_call 32; refine (RW.out _ _ _ ((RL.out.below ((Below.refl W5.heap.size W5).drew) (Nat.le_refl _)).mono ((Below.refl W5.heap.size W5).drew).size) ((RG.out.below ((Below.refl W5.heap.size W5).drew) (Nat.le_refl _)).mono ((Below.refl W5.heap.size W5).drew).size)).mono ?_; rintro e y1 ⟨r1, rfl, hv, hb⟩; have hX : Below W5.heap.size W5 y1 := ((Below.refl W5.heap.size W5).drew).trans (hb.mono ((Below.refl W5.heap.size W5).drew).size); have hq := (hX.block _ hq5).trans HQ.out; have q10 := blk_cell hq 0; have q11 := blk_cell hq 1; have q12 := blk_cell hq 2; have q13 := blk_cell hq 3; simp at q10 q11 q12 q13; have HX1 := hd hX; have P1 := hd hv; clear hX hq hb hv k0 k1 k2 k3))
  have hb := HX2.out
  have S1' := hd (show W5.heap.size ≤ y1.heap.size from HX1.out.size)
  have PA := hd (own_base (B' := W5.heap.size) P2.out.1 (Nat.le_refl _))
  have PB := hd (own_base (B' := W5.heap.size) P2.out.2 S1'.out)
  replace SY := hd SY.out
  have SW := hd SY.out
  clear P1 P2 HX1 HX2 S1' hq5 q20 q21 q22 q23
  replace HY := hd (HY.out.trans (hb.mono HY.out.size))
  replace HZ := hd (Nat.le_trans HZ.out hb.size)
  replace HQ := hd ((hb.block _ (blk_lt HQ.out)).trans HQ.out)
  replace HS := hd ((hb.block _ (blk_lt HS.out)).trans HS.out)
  replace HT := hd ((hb.block _ (blk_lt HT.out)).trans HT.out)
  replace HB := hd (HB.out.trans (hb.mono HB.out.size))
  replace RL := hd ((RL.out.below hb (Nat.le_refl _)).mono hb.size)
  replace RG := hd ((RG.out.below hb (Nat.le_refl _)).mono hb.size)
  replace RH := hd ((RH.out.below hb (Nat.le_refl _)).mono hb.size)
  replace RO := hd ((RO.out.below hb (Nat.le_refl _)).mono hb.size)
  replace RB := hd ((RB.out.below hb (Nat.le_refl _)).mono hb.size)
  clear hb
  have k0 := blk_cell HQ.out 0
  have k1 := blk_cell HQ.out 1
  have k2 := blk_cell HQ.out 2
  have k3 := blk_cell HQ.out 3
  simp at k0 k1 k2 k3
  go_wp2_with fail
  clear k0 k1 k2 k3
  refine (RS.out _ _ _ RL.out RG.out).mono ?_
  rintro e z15 ⟨rfl, hb⟩
  replace HY := hd (HY.out.trans (hb.mono HY.out.size))
  replace HZ := hd (Nat.le_trans HZ.out hb.size)
  replace PA := hd (own_bel PA.out hb)
  replace PB := hd (own_bel PB.out hb)
  replace HQ := hd ((hb.block _ (blk_lt HQ.out)).trans HQ.out)
  replace HS := hd ((hb.block _ (blk_lt HS.out)).trans HS.out)
  replace HT := hd ((hb.block _ (blk_lt HT.out)).trans HT.out)
  replace HB := hd (HB.out.trans (hb.mono HB.out.size))
  replace RL := hd ((RL.out.below hb (Nat.le_refl _)).mono hb.size)
  replace RG := hd ((RG.out.below hb (Nat.le_refl _)).mono hb.size)
  replace RH := hd ((RH.out.below hb (Nat.le_refl _)).mono hb.size)
  replace RO := hd ((RO.out.below hb (Nat.le_refl _)).mono hb.size)
  replace RB := hd ((RB.out.below hb (Nat.le_refl _)).mono hb.size)
  clear hb
  have c0 := blk_cell HT.out 0
  have c1 := blk_cell HT.out 1
  have c2 := blk_cell HT.out 2
  have c3 := blk_cell HT.out 3
  simp at c0 c1 c2 c3
  have f0 := blk_frozen HT.out 0
  have f1 := blk_frozen HT.out 1
  have f2 := blk_frozen HT.out 2
  have f3 := blk_frozen HT.out 3
  go_wp2_with fail
  clear c0 c1 c2 c3 f0 f1 f2 f3
  have HT2 := hd (set4_blk HT.out (.int .i64 cn) (.int .i64 sm) (.float .f32 lo') (.float .f32 hi'))
  have HS2 := hd ((set4_other z15 (R := V1.heap.size) (D := sb) hsne (.int .i64 cn) (.int .i64 sm) (.float .f32 lo') (.float .f32 hi')).trans HS.out)
  have hb9 := set4_below HY.out (R := V1.heap.size) (Nat.le_refl _) (.int .i64 cn) (.int .i64 sm) (.float .f32 lo') (.float .f32 hi')
  have U1 := hd (rd_of_own (own_set4 (R := V1.heap.size) (a := .int .i64 cn) (b := .int .i64 sm) (c := .float .f32 lo') (d := .float .f32 hi') PA.out SY.out))
  have U2 := hd (rd_of_own (own_set4 (R := V1.heap.size) (a := .int .i64 cn) (b := .int .i64 sm) (c := .float .f32 lo') (d := .float .f32 hi') PB.out SY.out))
  clear HT HS HY HB RH RO RB RL RG HQ
  clear PA PB
  have HY := hd hb9
  clear hb9
  change Calls _ _ _ (set4 z15 V1.heap.size (.int .i64 cn) (.int .i64 sm) (.float .f32 lo') (.float .f32 hi')) _
  generalize set4 z15 V1.heap.size (.int .i64 cn) (.int .i64 sm) (.float .f32 lo') (.float .f32 hi') = Z at *
  have HB := hd (HBV.out.trans (HY.out.mono HBV.out.size))
  have RH := hd ((QH.out.below HY.out (Nat.le_refl _)).mono HY.out.size)
  have RO := hd ((QO.out.below HY.out (Nat.le_refl _)).mono HY.out.size)
  have RB := hd ((QB.out.below HY.out (Nat.le_refl _)).mono HY.out.size)
  have U3 := hd (Rd.nil Z Z.heap.size)
  refine (sameInts_any _ _ LH LH _ RH.out U1.out).mono ?_
  rw [sameF_refl]
  rintro e z16 ⟨rfl, hb⟩
  replace HS2 := hd ((hb.block _ (blk_lt HS2.out)).trans HS2.out)
  replace HT2 := hd ((hb.block _ (blk_lt HT2.out)).trans HT2.out)
  replace HB := hd (HB.out.trans (hb.mono HB.out.size))
  replace RH := hd ((RH.out.below hb (Nat.le_refl _)).mono hb.size)
  replace RO := hd ((RO.out.below hb (Nat.le_refl _)).mono hb.size)
  replace RB := hd ((RB.out.below hb (Nat.le_refl _)).mono hb.size)
  replace U1 := hd ((U1.out.below hb (Nat.le_refl _)).mono hb.size)
  replace U2 := hd ((U2.out.below hb (Nat.le_refl _)).mono hb.size)
  replace U3 := hd ((U3.out.below hb (Nat.le_refl _)).mono hb.size)
  clear hb
  go_wp2_with fail
  refine (sameInts_any _ _ LO LO _ RO.out U2.out).mono ?_
  rw [sameF_refl]
  rintro e z17 ⟨rfl, hb⟩
  replace HS2 := hd ((hb.block _ (blk_lt HS2.out)).trans HS2.out)
  replace HT2 := hd ((hb.block _ (blk_lt HT2.out)).trans HT2.out)
  replace HB := hd (HB.out.trans (hb.mono HB.out.size))
  replace RH := hd ((RH.out.below hb (Nat.le_refl _)).mono hb.size)
  replace RO := hd ((RO.out.below hb (Nat.le_refl _)).mono hb.size)
  replace RB := hd ((RB.out.below hb (Nat.le_refl _)).mono hb.size)
  replace U1 := hd ((U1.out.below hb (Nat.le_refl _)).mono hb.size)
  replace U2 := hd ((U2.out.below hb (Nat.le_refl _)).mono hb.size)
  replace U3 := hd ((U3.out.below hb (Nat.le_refl _)).mono hb.size)
  clear hb
  go_wp2_with fail
  refine (sameSpans_any _ _ [] [] _ RB.out U3.out).mono ?_
  rw [sm_refl]
  rintro e z18 ⟨rfl, hb⟩
  replace HS2 := hd ((hb.block _ (blk_lt HS2.out)).trans HS2.out)
  replace HT2 := hd ((hb.block _ (blk_lt HT2.out)).trans HT2.out)
  replace HB := hd (HB.out.trans (hb.mono HB.out.size))
  replace RH := hd ((RH.out.below hb (Nat.le_refl _)).mono hb.size)
  replace RO := hd ((RO.out.below hb (Nat.le_refl _)).mono hb.size)
  replace RB := hd ((RB.out.below hb (Nat.le_refl _)).mono hb.size)
  replace U1 := hd ((U1.out.below hb (Nat.le_refl _)).mono hb.size)
  replace U2 := hd ((U2.out.below hb (Nat.le_refl _)).mono hb.size)
  replace U3 := hd ((U3.out.below hb (Nat.le_refl _)).mono hb.size)
  clear hb
  have s0 := blk_cell HS2.out 0
  have s1 := blk_cell HS2.out 1
  have s2 := blk_cell HS2.out 2
  have s3 := blk_cell HS2.out 3
  have t0 := blk_cell HT2.out 0
  have t1 := blk_cell HT2.out 1
  have t2 := blk_cell HT2.out 2
  have t3 := blk_cell HT2.out 3
  simp at s0 s1 s2 s3 t0 t1 t2 t3
  go_wp2_with fail
  go_returns
  exact ⟨rfl, HB.out⟩

set_option maxRecDepth 1000000 in
set_option maxHeartbeats 16000000 in
theorem waters_001 (HA : Hid Awake) (nm : ByteArray) (st wd : Int) (lev : Nat) (A A2 : Option Addr) (c c2 : Nat) (bs : List Nat) (gs : List (Int × Int))   (E x1 x3 : Int) (cn sm e4 : Int) (lo hi lo' hi' : Nat) (w : World)
    (HL : Hid (Rd w w.heap.size (.slice A bs.length c) bs.length (flc bs))) (HG : Hid (Rd w w.heap.size (.slice A2 gs.length c2) gs.length (spc gs))) (FL : Hid (Full (.slice A bs.length c))) (FG : Hid (Full (.slice A2 gs.length c2)))
    (S1 : Hid (shortR nm.size bs.length gs.length = true)) (HN : Hid (bs.length ≤ 100000 ∧ gs.length ≤ 100000))
    (CR : Hid (∀ (W : World) (lv gv : Value), Rd W W.heap.size lv bs.length (flc bs) → Rd W W.heap.size gv gs.length (spc gs) → Calls Tryz.prog 15 #[.agg #[.string nm, .int .i64 st, lv, gv]] W fun e w' => e = .returned (.int .i64 E) ∧ Below W.heap.size W w'))
    (H1 : Hid (fst0 [E, rng wd 1 4096] = x1)) (h1 : (x1 == 0) = false) (H3 : Hid (fst0 [E, chkLev lev] = x3)) (h3 : (x3 == 0) = false) (h4 : (E == 0) = true)
    (GH : Hid (∀ (W : World) (lv gv : Value), Rd W W.heap.size lv bs.length (flc bs) → Rd W W.heap.size gv gs.length (spc gs) → Calls Tryz.prog 27 #[.agg #[.string nm, .int .i64 st, lv, gv], .int .i64 wd] W (GotI [] x1 W)))
    (GL : Hid (∀ (W : World) (lv gv : Value), Rd W W.heap.size lv bs.length (flc bs) → Rd W W.heap.size gv gs.length (spc gs) → Calls Tryz.prog 28 #[.agg #[.string nm, .int .i64 st, lv, gv], .int .i64 wd] W (GotI [] x1 W)))
    (GA : Hid (∀ (W : World) (lv gv : Value), Rd W W.heap.size lv bs.length (flc bs) → Rd W W.heap.size gv gs.length (spc gs) → Calls Tryz.prog 29 #[.agg #[.string nm, .int .i64 st, lv, gv], .float .f32 lev] W (GotS [] x3 W)))
    (GS : Hid (∀ (W : World) (lv gv : Value), Rd W W.heap.size lv bs.length (flc bs) → Rd W W.heap.size gv gs.length (spc gs) → Calls Tryz.prog 30 #[.agg #[.string nm, .int .i64 st, lv, gv]] W fun e w' => e = .returned (.tuple #[.agg #[.int .i64 cn, .int .i64 sm, .float .f32 lo, .float .f32 hi], .int .i64 e4]) ∧ Below W.heap.size W w'))
    (RS : Hid (∀ (W : World) (lv gv : Value), Rd W W.heap.size lv bs.length (flc bs) → Rd W W.heap.size gv gs.length (spc gs) → Calls Tryz.prog 34 #[.agg #[.string nm, .int .i64 st, lv, gv]] W fun e w' => e = .returned (.tuple #[.agg #[.int .i64 cn, .int .i64 sm, .float .f32 lo', .float .f32 hi'], .int .i64 e4]) ∧ Below W.heap.size W w'))
    (hlo : feqL lo lo' = true) (hhi : feqL hi hi' = true) :
    Calls Tryz.prog 5 #[.agg #[.string nm, .int .i64 st, .slice A bs.length c, .slice A2 gs.length c2], .int .i64 wd, .float .f32 lev] w fun e w' => e = .returned (.bool true) ∧ Below w.heap.size w w' := by
  have hE1 := fun w => (eqFl 9998 lo lo' w).trans (by rw [hlo])
  have hE2 := fun w => (eqFl 9998 hi hi' w).trans (by rw [hhi])
  clear hlo hhi
  have hc4 : bs.length ≤ c ∧ c ≤ 9223372036854775807 := by obtain ⟨A', c', e, h1, h2, -⟩ := HL.out; cases e; unfold maxLen at h2; omega
  obtain ⟨hc5, hc6⟩ := hc4
  have hb1 := (Below.refl w.heap.size w).alloc (Nat.le_refl _) (Obj.cells #[.string nm, .int .i64 st, .slice A bs.length c, .slice A2 gs.length c2] 25)
  have HQ := hd (blk_new w #[.string nm, .int .i64 st, .slice A bs.length c, .slice A2 gs.length c2] 25)
  have HB := hd hb1
  have RL := hd ((HL.out.below hb1 (Nat.le_refl _)).mono hb1.size)
  have RG := hd ((HG.out.below hb1 (Nat.le_refl _)).mono hb1.size)
  clear hb1
  go_enter Tryz.func5, Tryz.ntmps5
  go_wp2_with fail
  generalize w.alloc (Obj.cells #[.string nm, .int .i64 st, .slice A bs.length c, .slice A2 gs.length c2] 25) = W1 at *
  refine (HA.out _).mono ?_
  rintro e z0 ⟨rfl, hb⟩
  replace HQ := hd ((hb.block _ (blk_lt HQ.out)).trans HQ.out)
  replace HB := hd (HB.out.trans (hb.mono HB.out.size))
  replace RL := hd ((RL.out.below hb (Nat.le_refl _)).mono hb.size)
  replace RG := hd ((RG.out.below hb (Nat.le_refl _)).mono hb.size)
  clear hb
  have k0 := blk_cell HQ.out 0
  have k1 := blk_cell HQ.out 1
  have k2 := blk_cell HQ.out 2
  have k3 := blk_cell HQ.out 3
  simp at k0 k1 k2 k3
  go_wp2_with fail
  refine (short_any nm st A A2 bs.length c gs.length c2 _).mono ?_
  rw [S1.out]
  rintro e z1 ⟨rfl, hb⟩
  replace HQ := hd ((hb.block _ (blk_lt HQ.out)).trans HQ.out)
  replace HB := hd (HB.out.trans (hb.mono HB.out.size))
  replace RL := hd ((RL.out.below hb (Nat.le_refl _)).mono hb.size)
  replace RG := hd ((RG.out.below hb (Nat.le_refl _)).mono hb.size)
  clear hb
  clear k0 k1 k2 k3
  have k0 := blk_cell HQ.out 0
  have k1 := blk_cell HQ.out 1
  have k2 := blk_cell HQ.out 2
  have k3 := blk_cell HQ.out 3
  simp at k0 k1 k2 k3
  go_wp2_with fail
  refine (lawRecord_any nm st _ _ bs gs _ RL.out RG.out FL.out FG.out HN.out.1 HN.out.2).mono ?_
  rintro e z2 ⟨u1, u2, rfl, hu1, hu2, -, -, hb⟩
  have U1 := hd hu1
  have U2 := hd hu2
  clear hu1 hu2
  replace HQ := hd ((hb.block _ (blk_lt HQ.out)).trans HQ.out)
  replace HB := hd (HB.out.trans (hb.mono HB.out.size))
  replace RL := hd ((RL.out.below hb (Nat.le_refl _)).mono hb.size)
  replace RG := hd ((RG.out.below hb (Nat.le_refl _)).mono hb.size)
  clear hb
  clear k0 k1 k2 k3
  go_wp2_with fail
  refine (GH.out _ _ _ U1.out U2.out).mono ?_
  rintro e z3 ⟨v0, rfl, hv, hb⟩
  have RH := hd hv
  clear hv U1 U2
  replace HQ := hd ((hb.block _ (blk_lt HQ.out)).trans HQ.out)
  replace HB := hd (HB.out.trans (hb.mono HB.out.size))
  replace RL := hd ((RL.out.below hb (Nat.le_refl _)).mono hb.size)
  replace RG := hd ((RG.out.below hb (Nat.le_refl _)).mono hb.size)
  clear hb
  have k0 := blk_cell HQ.out 0
  have k1 := blk_cell HQ.out 1
  have k2 := blk_cell HQ.out 2
  have k3 := blk_cell HQ.out 3
  simp at k0 k1 k2 k3
  go_wp2_with fail
  refine (lawRecord_any nm st _ _ bs gs _ RL.out RG.out FL.out FG.out HN.out.1 HN.out.2).mono ?_
  rintro e z4 ⟨u1, u2, rfl, hu1, hu2, -, -, hb⟩
  have U1 := hd hu1
  have U2 := hd hu2
  clear hu1 hu2
  replace HQ := hd ((hb.block _ (blk_lt HQ.out)).trans HQ.out)
  replace HB := hd (HB.out.trans (hb.mono HB.out.size))
  replace RL := hd ((RL.out.below hb (Nat.le_refl _)).mono hb.size)
  replace RG := hd ((RG.out.below hb (Nat.le_refl _)).mono hb.size)
  replace RH := hd ((RH.out.below hb (Nat.le_refl _)).mono hb.size)
  clear hb
  clear k0 k1 k2 k3
  go_wp2_with fail
  refine (GL.out _ _ _ U1.out U2.out).mono ?_
  rintro e z5 ⟨v1, rfl, hv, hb⟩
  have RO := hd hv
  clear hv U1 U2
  replace HQ := hd ((hb.block _ (blk_lt HQ.out)).trans HQ.out)
  replace HB := hd (HB.out.trans (hb.mono HB.out.size))
  replace RL := hd ((RL.out.below hb (Nat.le_refl _)).mono hb.size)
  replace RG := hd ((RG.out.below hb (Nat.le_refl _)).mono hb.size)
  replace RH := hd ((RH.out.below hb (Nat.le_refl _)).mono hb.size)
  clear hb
  have k0 := blk_cell HQ.out 0
  have k1 := blk_cell HQ.out 1
  have k2 := blk_cell HQ.out 2
  have k3 := blk_cell HQ.out 3
  simp at k0 k1 k2 k3
  go_wp2_with fail
  refine (lawRecord_any nm st _ _ bs gs _ RL.out RG.out FL.out FG.out HN.out.1 HN.out.2).mono ?_
  rintro e z6 ⟨u1, u2, rfl, hu1, hu2, -, -, hb⟩
  have U1 := hd hu1
  have U2 := hd hu2
  clear hu1 hu2
  replace HQ := hd ((hb.block _ (blk_lt HQ.out)).trans HQ.out)
  replace HB := hd (HB.out.trans (hb.mono HB.out.size))
  replace RL := hd ((RL.out.below hb (Nat.le_refl _)).mono hb.size)
  replace RG := hd ((RG.out.below hb (Nat.le_refl _)).mono hb.size)
  replace RH := hd ((RH.out.below hb (Nat.le_refl _)).mono hb.size)
  replace RO := hd ((RO.out.below hb (Nat.le_refl _)).mono hb.size)
  clear hb
  clear k0 k1 k2 k3
  go_wp2_with fail
  refine (GA.out _ _ _ U1.out U2.out).mono ?_
  rintro e z7 ⟨v2, rfl, hv, hb⟩
  have RB := hd hv
  clear hv U1 U2
  replace HQ := hd ((hb.block _ (blk_lt HQ.out)).trans HQ.out)
  replace HB := hd (HB.out.trans (hb.mono HB.out.size))
  replace RL := hd ((RL.out.below hb (Nat.le_refl _)).mono hb.size)
  replace RG := hd ((RG.out.below hb (Nat.le_refl _)).mono hb.size)
  replace RH := hd ((RH.out.below hb (Nat.le_refl _)).mono hb.size)
  replace RO := hd ((RO.out.below hb (Nat.le_refl _)).mono hb.size)
  clear hb
  have k0 := blk_cell HQ.out 0
  have k1 := blk_cell HQ.out 1
  have k2 := blk_cell HQ.out 2
  have k3 := blk_cell HQ.out 3
  simp at k0 k1 k2 k3
  go_wp2_with fail
  refine (lawRecord_any nm st _ _ bs gs _ RL.out RG.out FL.out FG.out HN.out.1 HN.out.2).mono ?_
  rintro e z8 ⟨u1, u2, rfl, hu1, hu2, -, -, hb⟩
  have U1 := hd hu1
  have U2 := hd hu2
  clear hu1 hu2
  replace HQ := hd ((hb.block _ (blk_lt HQ.out)).trans HQ.out)
  replace HB := hd (HB.out.trans (hb.mono HB.out.size))
  replace RL := hd ((RL.out.below hb (Nat.le_refl _)).mono hb.size)
  replace RG := hd ((RG.out.below hb (Nat.le_refl _)).mono hb.size)
  replace RH := hd ((RH.out.below hb (Nat.le_refl _)).mono hb.size)
  replace RO := hd ((RO.out.below hb (Nat.le_refl _)).mono hb.size)
  replace RB := hd ((RB.out.below hb (Nat.le_refl _)).mono hb.size)
  clear hb
  clear k0 k1 k2 k3
  go_wp2_with fail
  refine (GS.out _ _ _ U1.out U2.out).mono ?_
  rintro e z9 ⟨rfl, hb⟩
  clear U1 U2
  replace HQ := hd ((hb.block _ (blk_lt HQ.out)).trans HQ.out)
  replace HB := hd (HB.out.trans (hb.mono HB.out.size))
  replace RL := hd ((RL.out.below hb (Nat.le_refl _)).mono hb.size)
  replace RG := hd ((RG.out.below hb (Nat.le_refl _)).mono hb.size)
  replace RH := hd ((RH.out.below hb (Nat.le_refl _)).mono hb.size)
  replace RO := hd ((RO.out.below hb (Nat.le_refl _)).mono hb.size)
  replace RB := hd ((RB.out.below hb (Nat.le_refl _)).mono hb.size)
  clear hb
  have k0 := blk_cell HQ.out 0
  have k1 := blk_cell HQ.out 1
  have k2 := blk_cell HQ.out 2
  have k3 := blk_cell HQ.out 3
  simp at k0 k1 k2 k3
  have m0 := cell_alloc_old (o := (Obj.cells #[.int .i64 cn, .int .i64 sm, .float .f32 lo, .float .f32 hi] 67)) k0
  have m1 := cell_alloc_old (o := (Obj.cells #[.int .i64 cn, .int .i64 sm, .float .f32 lo, .float .f32 hi] 67)) k1
  have m2 := cell_alloc_old (o := (Obj.cells #[.int .i64 cn, .int .i64 sm, .float .f32 lo, .float .f32 hi] 67)) k2
  have m3 := cell_alloc_old (o := (Obj.cells #[.int .i64 cn, .int .i64 sm, .float .f32 lo, .float .f32 hi] 67)) k3
  go_wp2_with fail
  clear k0 k1 k2 k3
  clear m0 m1 m2 m3
  have hb := (Below.refl z9.heap.size z9).alloc (Nat.le_refl _) (Obj.cells #[.int .i64 cn, .int .i64 sm, .float .f32 lo, .float .f32 hi] 67)
  have HS := hd (blk_new z9 #[.int .i64 cn, .int .i64 sm, .float .f32 lo, .float .f32 hi] 67)
  replace HQ := hd ((hb.block _ (blk_lt HQ.out)).trans HQ.out)
  replace HB := hd (HB.out.trans (hb.mono HB.out.size))
  replace RL := hd ((RL.out.below hb (Nat.le_refl _)).mono hb.size)
  replace RG := hd ((RG.out.below hb (Nat.le_refl _)).mono hb.size)
  replace RH := hd ((RH.out.below hb (Nat.le_refl _)).mono hb.size)
  replace RO := hd ((RO.out.below hb (Nat.le_refl _)).mono hb.size)
  replace RB := hd ((RB.out.below hb (Nat.le_refl _)).mono hb.size)
  clear hb
  generalize hsb : z9.heap.size = sb at *
  generalize z9.alloc (Obj.cells #[.int .i64 cn, .int .i64 sm, .float .f32 lo, .float .f32 hi] 67) = W2 at *
  clear hsb
  refine (CR.out _ _ _ RL.out RG.out).mono ?_
  rintro e z10 ⟨rfl, hb⟩
  replace HQ := hd ((hb.block _ (blk_lt HQ.out)).trans HQ.out)
  replace HS := hd ((hb.block _ (blk_lt HS.out)).trans HS.out)
  replace HB := hd (HB.out.trans (hb.mono HB.out.size))
  replace RL := hd ((RL.out.below hb (Nat.le_refl _)).mono hb.size)
  replace RG := hd ((RG.out.below hb (Nat.le_refl _)).mono hb.size)
  replace RH := hd ((RH.out.below hb (Nat.le_refl _)).mono hb.size)
  replace RO := hd ((RO.out.below hb (Nat.le_refl _)).mono hb.size)
  replace RB := hd ((RB.out.below hb (Nat.le_refl _)).mono hb.size)
  clear hb
  go_wp2_with fail
  refine (refRange_any wd 1 4096 _).mono ?_
  rintro e z11 ⟨rfl, hb⟩
  replace HQ := hd ((hb.block _ (blk_lt HQ.out)).trans HQ.out)
  replace HS := hd ((hb.block _ (blk_lt HS.out)).trans HS.out)
  replace HB := hd (HB.out.trans (hb.mono HB.out.size))
  replace RL := hd ((RL.out.below hb (Nat.le_refl _)).mono hb.size)
  replace RG := hd ((RG.out.below hb (Nat.le_refl _)).mono hb.size)
  replace RH := hd ((RH.out.below hb (Nat.le_refl _)).mono hb.size)
  replace RO := hd ((RO.out.below hb (Nat.le_refl _)).mono hb.size)
  replace RB := hd ((RB.out.below hb (Nat.le_refl _)).mono hb.size)
  clear hb
  go_wp2_with fail
  have hb := (Below.refl z11.heap.size z11).alloc (Nat.le_refl _) (Obj.cells #[.int .i64 E, .int .i64 (rng wd 1 4096)] 3)
  have hR := hd (Rd.new z11 #[.int .i64 E, .int .i64 (rng wd 1 4096)] 3 2 ([E, rng wd 1 4096].map (Value.int .i64)) rfl (by decide))
  replace HQ := hd ((hb.block _ (blk_lt HQ.out)).trans HQ.out)
  replace HS := hd ((hb.block _ (blk_lt HS.out)).trans HS.out)
  replace HB := hd (HB.out.trans (hb.mono HB.out.size))
  replace RL := hd ((RL.out.below hb (Nat.le_refl _)).mono hb.size)
  replace RG := hd ((RG.out.below hb (Nat.le_refl _)).mono hb.size)
  replace RH := hd ((RH.out.below hb (Nat.le_refl _)).mono hb.size)
  replace RO := hd ((RO.out.below hb (Nat.le_refl _)).mono hb.size)
  replace RB := hd ((RB.out.below hb (Nat.le_refl _)).mono hb.size)
  clear hb
  generalize z11.alloc (Obj.cells #[.int .i64 E, .int .i64 (rng wd 1 4096)] 3) = V0 at *
  refine (lawFirst_any _ [E, rng wd 1 4096] _ hR.out).mono ?_
  rw [H1.out]
  rintro e w' ⟨rfl, rfl⟩
  clear hR
  go_wp2_with fail
  refine (rLev_any lev _).mono ?_
  rintro e z13 ⟨rfl, hb⟩
  replace HQ := hd ((hb.block _ (blk_lt HQ.out)).trans HQ.out)
  replace HS := hd ((hb.block _ (blk_lt HS.out)).trans HS.out)
  replace HB := hd (HB.out.trans (hb.mono HB.out.size))
  replace RL := hd ((RL.out.below hb (Nat.le_refl _)).mono hb.size)
  replace RG := hd ((RG.out.below hb (Nat.le_refl _)).mono hb.size)
  replace RH := hd ((RH.out.below hb (Nat.le_refl _)).mono hb.size)
  replace RO := hd ((RO.out.below hb (Nat.le_refl _)).mono hb.size)
  replace RB := hd ((RB.out.below hb (Nat.le_refl _)).mono hb.size)
  clear hb
  go_wp2_with fail
  have hb := (Below.refl z13.heap.size z13).alloc (Nat.le_refl _) (Obj.cells #[.int .i64 E, .int .i64 (chkLev lev)] 3)
  have hR := hd (Rd.new z13 #[.int .i64 E, .int .i64 (chkLev lev)] 3 2 ([E, chkLev lev].map (Value.int .i64)) rfl (by decide))
  replace HQ := hd ((hb.block _ (blk_lt HQ.out)).trans HQ.out)
  replace HS := hd ((hb.block _ (blk_lt HS.out)).trans HS.out)
  replace HB := hd (HB.out.trans (hb.mono HB.out.size))
  replace RL := hd ((RL.out.below hb (Nat.le_refl _)).mono hb.size)
  replace RG := hd ((RG.out.below hb (Nat.le_refl _)).mono hb.size)
  replace RH := hd ((RH.out.below hb (Nat.le_refl _)).mono hb.size)
  replace RO := hd ((RO.out.below hb (Nat.le_refl _)).mono hb.size)
  replace RB := hd ((RB.out.below hb (Nat.le_refl _)).mono hb.size)
  clear hb
  generalize z13.alloc (Obj.cells #[.int .i64 E, .int .i64 (chkLev lev)] 3) = V1 at *
  refine (lawFirst_any _ [E, chkLev lev] _ hR.out).mono ?_
  rw [H3.out]
  rintro e w' ⟨rfl, rfl⟩
  clear hR
  have k0 := blk_cell HQ.out 0
  have k1 := blk_cell HQ.out 1
  have k2 := blk_cell HQ.out 2
  have k3 := blk_cell HQ.out 3
  simp at k0 k1 k2 k3
  have m0 := cell_alloc_old (o := (Obj.cells #[.int .i64 0, .int .i64 0, .float .f32 0, .float .f32 0] 71)) k0
  have m1 := cell_alloc_old (o := (Obj.cells #[.int .i64 0, .int .i64 0, .float .f32 0, .float .f32 0] 71)) k1
  have m2 := cell_alloc_old (o := (Obj.cells #[.int .i64 0, .int .i64 0, .float .f32 0, .float .f32 0] 71)) k2
  have m3 := cell_alloc_old (o := (Obj.cells #[.int .i64 0, .int .i64 0, .float .f32 0, .float .f32 0] 71)) k3
  go_wp2_with fail
  clear k0 k1 k2 k3
  clear m0 m1 m2 m3
  have HBV := hd HB.out
  have QH := hd RH.out
  have QO := hd RO.out
  have QB := hd RB.out
  have hb := (Below.refl V1.heap.size V1).alloc (Nat.le_refl _) (Obj.cells #[.int .i64 0, .int .i64 0, .float .f32 0, .float .f32 0] 71)
  have HY := hd hb
  have SY := hd (show V1.heap.size < (V1.alloc (Obj.cells #[.int .i64 0, .int .i64 0, .float .f32 0, .float .f32 0] 71)).heap.size by simp)
  have HT := hd (blk_new V1 #[.int .i64 0, .int .i64 0, .float .f32 0, .float .f32 0] 71)
  have hsne : sb ≠ V1.heap.size := by have := blk_lt HS.out; omega
  replace HQ := hd ((hb.block _ (blk_lt HQ.out)).trans HQ.out)
  replace HS := hd ((hb.block _ (blk_lt HS.out)).trans HS.out)
  replace HB := hd (HB.out.trans (hb.mono HB.out.size))
  replace RL := hd ((RL.out.below hb (Nat.le_refl _)).mono hb.size)
  replace RG := hd ((RG.out.below hb (Nat.le_refl _)).mono hb.size)
  replace RH := hd ((RH.out.below hb (Nat.le_refl _)).mono hb.size)
  replace RO := hd ((RO.out.below hb (Nat.le_refl _)).mono hb.size)
  replace RB := hd ((RB.out.below hb (Nat.le_refl _)).mono hb.size)
  clear hb
  generalize V1.alloc (Obj.cells #[.int .i64 0, .int .i64 0, .float .f32 0, .float .f32 0] 71) = W5 at *
  have HZ := hd (Nat.le_refl W5.heap.size)
  have SW := hd SY.out
  refine (RS.out _ _ _ RL.out RG.out).mono ?_
  rintro e z15 ⟨rfl, hb⟩
  replace HY := hd (HY.out.trans (hb.mono HY.out.size))
  replace HZ := hd (Nat.le_trans HZ.out hb.size)
  replace HQ := hd ((hb.block _ (blk_lt HQ.out)).trans HQ.out)
  replace HS := hd ((hb.block _ (blk_lt HS.out)).trans HS.out)
  replace HT := hd ((hb.block _ (blk_lt HT.out)).trans HT.out)
  replace HB := hd (HB.out.trans (hb.mono HB.out.size))
  replace RL := hd ((RL.out.below hb (Nat.le_refl _)).mono hb.size)
  replace RG := hd ((RG.out.below hb (Nat.le_refl _)).mono hb.size)
  replace RH := hd ((RH.out.below hb (Nat.le_refl _)).mono hb.size)
  replace RO := hd ((RO.out.below hb (Nat.le_refl _)).mono hb.size)
  replace RB := hd ((RB.out.below hb (Nat.le_refl _)).mono hb.size)
  clear hb
  have c0 := blk_cell HT.out 0
  have c1 := blk_cell HT.out 1
  have c2 := blk_cell HT.out 2
  have c3 := blk_cell HT.out 3
  simp at c0 c1 c2 c3
  have f0 := blk_frozen HT.out 0
  have f1 := blk_frozen HT.out 1
  have f2 := blk_frozen HT.out 2
  have f3 := blk_frozen HT.out 3
  go_wp2_with fail
  clear c0 c1 c2 c3 f0 f1 f2 f3
  have HT2 := hd (set4_blk HT.out (.int .i64 cn) (.int .i64 sm) (.float .f32 lo') (.float .f32 hi'))
  have HS2 := hd ((set4_other z15 (R := V1.heap.size) (D := sb) hsne (.int .i64 cn) (.int .i64 sm) (.float .f32 lo') (.float .f32 hi')).trans HS.out)
  have hb9 := set4_below HY.out (R := V1.heap.size) (Nat.le_refl _) (.int .i64 cn) (.int .i64 sm) (.float .f32 lo') (.float .f32 hi')
  clear HT HS HY HB RH RO RB RL RG HQ
  have HY := hd hb9
  clear hb9
  change Calls _ _ _ (set4 z15 V1.heap.size (.int .i64 cn) (.int .i64 sm) (.float .f32 lo') (.float .f32 hi')) _
  generalize set4 z15 V1.heap.size (.int .i64 cn) (.int .i64 sm) (.float .f32 lo') (.float .f32 hi') = Z at *
  have HB := hd (HBV.out.trans (HY.out.mono HBV.out.size))
  have RH := hd ((QH.out.below HY.out (Nat.le_refl _)).mono HY.out.size)
  have RO := hd ((QO.out.below HY.out (Nat.le_refl _)).mono HY.out.size)
  have RB := hd ((QB.out.below HY.out (Nat.le_refl _)).mono HY.out.size)
  have U1 := hd (Rd.nil Z Z.heap.size)
  have U2 := hd (Rd.nil Z Z.heap.size)
  have U3 := hd (Rd.nil Z Z.heap.size)
  refine (sameInts_any _ _ [] [] _ RH.out U1.out).mono ?_
  rw [sameF_refl]
  rintro e z16 ⟨rfl, hb⟩
  replace HS2 := hd ((hb.block _ (blk_lt HS2.out)).trans HS2.out)
  replace HT2 := hd ((hb.block _ (blk_lt HT2.out)).trans HT2.out)
  replace HB := hd (HB.out.trans (hb.mono HB.out.size))
  replace RH := hd ((RH.out.below hb (Nat.le_refl _)).mono hb.size)
  replace RO := hd ((RO.out.below hb (Nat.le_refl _)).mono hb.size)
  replace RB := hd ((RB.out.below hb (Nat.le_refl _)).mono hb.size)
  replace U1 := hd ((U1.out.below hb (Nat.le_refl _)).mono hb.size)
  replace U2 := hd ((U2.out.below hb (Nat.le_refl _)).mono hb.size)
  replace U3 := hd ((U3.out.below hb (Nat.le_refl _)).mono hb.size)
  clear hb
  go_wp2_with fail
  refine (sameInts_any _ _ [] [] _ RO.out U2.out).mono ?_
  rw [sameF_refl]
  rintro e z17 ⟨rfl, hb⟩
  replace HS2 := hd ((hb.block _ (blk_lt HS2.out)).trans HS2.out)
  replace HT2 := hd ((hb.block _ (blk_lt HT2.out)).trans HT2.out)
  replace HB := hd (HB.out.trans (hb.mono HB.out.size))
  replace RH := hd ((RH.out.below hb (Nat.le_refl _)).mono hb.size)
  replace RO := hd ((RO.out.below hb (Nat.le_refl _)).mono hb.size)
  replace RB := hd ((RB.out.below hb (Nat.le_refl _)).mono hb.size)
  replace U1 := hd ((U1.out.below hb (Nat.le_refl _)).mono hb.size)
  replace U2 := hd ((U2.out.below hb (Nat.le_refl _)).mono hb.size)
  replace U3 := hd ((U3.out.below hb (Nat.le_refl _)).mono hb.size)
  clear hb
  go_wp2_with fail
  refine (sameSpans_any _ _ [] [] _ RB.out U3.out).mono ?_
  rw [sm_refl]
  rintro e z18 ⟨rfl, hb⟩
  replace HS2 := hd ((hb.block _ (blk_lt HS2.out)).trans HS2.out)
  replace HT2 := hd ((hb.block _ (blk_lt HT2.out)).trans HT2.out)
  replace HB := hd (HB.out.trans (hb.mono HB.out.size))
  replace RH := hd ((RH.out.below hb (Nat.le_refl _)).mono hb.size)
  replace RO := hd ((RO.out.below hb (Nat.le_refl _)).mono hb.size)
  replace RB := hd ((RB.out.below hb (Nat.le_refl _)).mono hb.size)
  replace U1 := hd ((U1.out.below hb (Nat.le_refl _)).mono hb.size)
  replace U2 := hd ((U2.out.below hb (Nat.le_refl _)).mono hb.size)
  replace U3 := hd ((U3.out.below hb (Nat.le_refl _)).mono hb.size)
  clear hb
  have s0 := blk_cell HS2.out 0
  have s1 := blk_cell HS2.out 1
  have s2 := blk_cell HS2.out 2
  have s3 := blk_cell HS2.out 3
  have t0 := blk_cell HT2.out 0
  have t1 := blk_cell HT2.out 1
  have t2 := blk_cell HT2.out 2
  have t3 := blk_cell HT2.out 3
  simp at s0 s1 s2 s3 t0 t1 t2 t3
  go_wp2_with fail
  go_returns
  exact ⟨rfl, HB.out⟩

set_option maxRecDepth 1000000 in
set_option maxHeartbeats 16000000 in
theorem waters_000 (HA : Hid Awake) (nm : ByteArray) (st wd : Int) (lev : Nat) (A A2 : Option Addr) (c c2 : Nat) (bs : List Nat) (gs : List (Int × Int))   (E x1 x3 : Int) (cn sm e4 : Int) (lo hi : Nat) (w : World)
    (HL : Hid (Rd w w.heap.size (.slice A bs.length c) bs.length (flc bs))) (HG : Hid (Rd w w.heap.size (.slice A2 gs.length c2) gs.length (spc gs))) (FL : Hid (Full (.slice A bs.length c))) (FG : Hid (Full (.slice A2 gs.length c2)))
    (S1 : Hid (shortR nm.size bs.length gs.length = true)) (HN : Hid (bs.length ≤ 100000 ∧ gs.length ≤ 100000))
    (CR : Hid (∀ (W : World) (lv gv : Value), Rd W W.heap.size lv bs.length (flc bs) → Rd W W.heap.size gv gs.length (spc gs) → Calls Tryz.prog 15 #[.agg #[.string nm, .int .i64 st, lv, gv]] W fun e w' => e = .returned (.int .i64 E) ∧ Below W.heap.size W w'))
    (H1 : Hid (fst0 [E, rng wd 1 4096] = x1)) (h1 : (x1 == 0) = false) (H3 : Hid (fst0 [E, chkLev lev] = x3)) (h3 : (x3 == 0) = false) (h4 : (E == 0) = false)
    (GH : Hid (∀ (W : World) (lv gv : Value), Rd W W.heap.size lv bs.length (flc bs) → Rd W W.heap.size gv gs.length (spc gs) → Calls Tryz.prog 27 #[.agg #[.string nm, .int .i64 st, lv, gv], .int .i64 wd] W (GotI [] x1 W)))
    (GL : Hid (∀ (W : World) (lv gv : Value), Rd W W.heap.size lv bs.length (flc bs) → Rd W W.heap.size gv gs.length (spc gs) → Calls Tryz.prog 28 #[.agg #[.string nm, .int .i64 st, lv, gv], .int .i64 wd] W (GotI [] x1 W)))
    (GA : Hid (∀ (W : World) (lv gv : Value), Rd W W.heap.size lv bs.length (flc bs) → Rd W W.heap.size gv gs.length (spc gs) → Calls Tryz.prog 29 #[.agg #[.string nm, .int .i64 st, lv, gv], .float .f32 lev] W (GotS [] x3 W)))
    (GS : Hid (∀ (W : World) (lv gv : Value), Rd W W.heap.size lv bs.length (flc bs) → Rd W W.heap.size gv gs.length (spc gs) → Calls Tryz.prog 30 #[.agg #[.string nm, .int .i64 st, lv, gv]] W fun e w' => e = .returned (.tuple #[.agg #[.int .i64 cn, .int .i64 sm, .float .f32 lo, .float .f32 hi], .int .i64 e4]) ∧ Below W.heap.size W w'))
    (hz : cn = 0 ∧ sm = 0 ∧ lo = 0 ∧ hi = 0 ∧ E = e4) :
    Calls Tryz.prog 5 #[.agg #[.string nm, .int .i64 st, .slice A bs.length c, .slice A2 gs.length c2], .int .i64 wd, .float .f32 lev] w fun e w' => e = .returned (.bool true) ∧ Below w.heap.size w w' := by
  obtain ⟨rfl, rfl, rfl, rfl, rfl⟩ := hz
  have hE1 := fun w => (eqFl 9998 0 0 w).trans (by rw [show feqL 0 0 = true by decide +kernel])
  have hc4 : bs.length ≤ c ∧ c ≤ 9223372036854775807 := by obtain ⟨A', c', e, h1, h2, -⟩ := HL.out; cases e; unfold maxLen at h2; omega
  obtain ⟨hc5, hc6⟩ := hc4
  have hb1 := (Below.refl w.heap.size w).alloc (Nat.le_refl _) (Obj.cells #[.string nm, .int .i64 st, .slice A bs.length c, .slice A2 gs.length c2] 25)
  have HQ := hd (blk_new w #[.string nm, .int .i64 st, .slice A bs.length c, .slice A2 gs.length c2] 25)
  have HB := hd hb1
  have RL := hd ((HL.out.below hb1 (Nat.le_refl _)).mono hb1.size)
  have RG := hd ((HG.out.below hb1 (Nat.le_refl _)).mono hb1.size)
  clear hb1
  go_enter Tryz.func5, Tryz.ntmps5
  go_wp2_with fail
  generalize w.alloc (Obj.cells #[.string nm, .int .i64 st, .slice A bs.length c, .slice A2 gs.length c2] 25) = W1 at *
  refine (HA.out _).mono ?_
  rintro e z0 ⟨rfl, hb⟩
  replace HQ := hd ((hb.block _ (blk_lt HQ.out)).trans HQ.out)
  replace HB := hd (HB.out.trans (hb.mono HB.out.size))
  replace RL := hd ((RL.out.below hb (Nat.le_refl _)).mono hb.size)
  replace RG := hd ((RG.out.below hb (Nat.le_refl _)).mono hb.size)
  clear hb
  have k0 := blk_cell HQ.out 0
  have k1 := blk_cell HQ.out 1
  have k2 := blk_cell HQ.out 2
  have k3 := blk_cell HQ.out 3
  simp at k0 k1 k2 k3
  go_wp2_with fail
  refine (short_any nm st A A2 bs.length c gs.length c2 _).mono ?_
  rw [S1.out]
  rintro e z1 ⟨rfl, hb⟩
  replace HQ := hd ((hb.block _ (blk_lt HQ.out)).trans HQ.out)
  replace HB := hd (HB.out.trans (hb.mono HB.out.size))
  replace RL := hd ((RL.out.below hb (Nat.le_refl _)).mono hb.size)
  replace RG := hd ((RG.out.below hb (Nat.le_refl _)).mono hb.size)
  clear hb
  clear k0 k1 k2 k3
  have k0 := blk_cell HQ.out 0
  have k1 := blk_cell HQ.out 1
  have k2 := blk_cell HQ.out 2
  have k3 := blk_cell HQ.out 3
  simp at k0 k1 k2 k3
  go_wp2_with fail
  refine (lawRecord_any nm st _ _ bs gs _ RL.out RG.out FL.out FG.out HN.out.1 HN.out.2).mono ?_
  rintro e z2 ⟨u1, u2, rfl, hu1, hu2, -, -, hb⟩
  have U1 := hd hu1
  have U2 := hd hu2
  clear hu1 hu2
  replace HQ := hd ((hb.block _ (blk_lt HQ.out)).trans HQ.out)
  replace HB := hd (HB.out.trans (hb.mono HB.out.size))
  replace RL := hd ((RL.out.below hb (Nat.le_refl _)).mono hb.size)
  replace RG := hd ((RG.out.below hb (Nat.le_refl _)).mono hb.size)
  clear hb
  clear k0 k1 k2 k3
  go_wp2_with fail
  refine (GH.out _ _ _ U1.out U2.out).mono ?_
  rintro e z3 ⟨v0, rfl, hv, hb⟩
  have RH := hd hv
  clear hv U1 U2
  replace HQ := hd ((hb.block _ (blk_lt HQ.out)).trans HQ.out)
  replace HB := hd (HB.out.trans (hb.mono HB.out.size))
  replace RL := hd ((RL.out.below hb (Nat.le_refl _)).mono hb.size)
  replace RG := hd ((RG.out.below hb (Nat.le_refl _)).mono hb.size)
  clear hb
  have k0 := blk_cell HQ.out 0
  have k1 := blk_cell HQ.out 1
  have k2 := blk_cell HQ.out 2
  have k3 := blk_cell HQ.out 3
  simp at k0 k1 k2 k3
  go_wp2_with fail
  refine (lawRecord_any nm st _ _ bs gs _ RL.out RG.out FL.out FG.out HN.out.1 HN.out.2).mono ?_
  rintro e z4 ⟨u1, u2, rfl, hu1, hu2, -, -, hb⟩
  have U1 := hd hu1
  have U2 := hd hu2
  clear hu1 hu2
  replace HQ := hd ((hb.block _ (blk_lt HQ.out)).trans HQ.out)
  replace HB := hd (HB.out.trans (hb.mono HB.out.size))
  replace RL := hd ((RL.out.below hb (Nat.le_refl _)).mono hb.size)
  replace RG := hd ((RG.out.below hb (Nat.le_refl _)).mono hb.size)
  replace RH := hd ((RH.out.below hb (Nat.le_refl _)).mono hb.size)
  clear hb
  clear k0 k1 k2 k3
  go_wp2_with fail
  refine (GL.out _ _ _ U1.out U2.out).mono ?_
  rintro e z5 ⟨v1, rfl, hv, hb⟩
  have RO := hd hv
  clear hv U1 U2
  replace HQ := hd ((hb.block _ (blk_lt HQ.out)).trans HQ.out)
  replace HB := hd (HB.out.trans (hb.mono HB.out.size))
  replace RL := hd ((RL.out.below hb (Nat.le_refl _)).mono hb.size)
  replace RG := hd ((RG.out.below hb (Nat.le_refl _)).mono hb.size)
  replace RH := hd ((RH.out.below hb (Nat.le_refl _)).mono hb.size)
  clear hb
  have k0 := blk_cell HQ.out 0
  have k1 := blk_cell HQ.out 1
  have k2 := blk_cell HQ.out 2
  have k3 := blk_cell HQ.out 3
  simp at k0 k1 k2 k3
  go_wp2_with fail
  refine (lawRecord_any nm st _ _ bs gs _ RL.out RG.out FL.out FG.out HN.out.1 HN.out.2).mono ?_
  rintro e z6 ⟨u1, u2, rfl, hu1, hu2, -, -, hb⟩
  have U1 := hd hu1
  have U2 := hd hu2
  clear hu1 hu2
  replace HQ := hd ((hb.block _ (blk_lt HQ.out)).trans HQ.out)
  replace HB := hd (HB.out.trans (hb.mono HB.out.size))
  replace RL := hd ((RL.out.below hb (Nat.le_refl _)).mono hb.size)
  replace RG := hd ((RG.out.below hb (Nat.le_refl _)).mono hb.size)
  replace RH := hd ((RH.out.below hb (Nat.le_refl _)).mono hb.size)
  replace RO := hd ((RO.out.below hb (Nat.le_refl _)).mono hb.size)
  clear hb
  clear k0 k1 k2 k3
  go_wp2_with fail
  refine (GA.out _ _ _ U1.out U2.out).mono ?_
  rintro e z7 ⟨v2, rfl, hv, hb⟩
  have RB := hd hv
  clear hv U1 U2
  replace HQ := hd ((hb.block _ (blk_lt HQ.out)).trans HQ.out)
  replace HB := hd (HB.out.trans (hb.mono HB.out.size))
  replace RL := hd ((RL.out.below hb (Nat.le_refl _)).mono hb.size)
  replace RG := hd ((RG.out.below hb (Nat.le_refl _)).mono hb.size)
  replace RH := hd ((RH.out.below hb (Nat.le_refl _)).mono hb.size)
  replace RO := hd ((RO.out.below hb (Nat.le_refl _)).mono hb.size)
  clear hb
  have k0 := blk_cell HQ.out 0
  have k1 := blk_cell HQ.out 1
  have k2 := blk_cell HQ.out 2
  have k3 := blk_cell HQ.out 3
  simp at k0 k1 k2 k3
  go_wp2_with fail
  refine (lawRecord_any nm st _ _ bs gs _ RL.out RG.out FL.out FG.out HN.out.1 HN.out.2).mono ?_
  rintro e z8 ⟨u1, u2, rfl, hu1, hu2, -, -, hb⟩
  have U1 := hd hu1
  have U2 := hd hu2
  clear hu1 hu2
  replace HQ := hd ((hb.block _ (blk_lt HQ.out)).trans HQ.out)
  replace HB := hd (HB.out.trans (hb.mono HB.out.size))
  replace RL := hd ((RL.out.below hb (Nat.le_refl _)).mono hb.size)
  replace RG := hd ((RG.out.below hb (Nat.le_refl _)).mono hb.size)
  replace RH := hd ((RH.out.below hb (Nat.le_refl _)).mono hb.size)
  replace RO := hd ((RO.out.below hb (Nat.le_refl _)).mono hb.size)
  replace RB := hd ((RB.out.below hb (Nat.le_refl _)).mono hb.size)
  clear hb
  clear k0 k1 k2 k3
  go_wp2_with fail
  refine (GS.out _ _ _ U1.out U2.out).mono ?_
  rintro e z9 ⟨rfl, hb⟩
  clear U1 U2
  replace HQ := hd ((hb.block _ (blk_lt HQ.out)).trans HQ.out)
  replace HB := hd (HB.out.trans (hb.mono HB.out.size))
  replace RL := hd ((RL.out.below hb (Nat.le_refl _)).mono hb.size)
  replace RG := hd ((RG.out.below hb (Nat.le_refl _)).mono hb.size)
  replace RH := hd ((RH.out.below hb (Nat.le_refl _)).mono hb.size)
  replace RO := hd ((RO.out.below hb (Nat.le_refl _)).mono hb.size)
  replace RB := hd ((RB.out.below hb (Nat.le_refl _)).mono hb.size)
  clear hb
  have k0 := blk_cell HQ.out 0
  have k1 := blk_cell HQ.out 1
  have k2 := blk_cell HQ.out 2
  have k3 := blk_cell HQ.out 3
  simp at k0 k1 k2 k3
  have m0 := cell_alloc_old (o := (Obj.cells #[.int .i64 0, .int .i64 0, .float .f32 0, .float .f32 0] 67)) k0
  have m1 := cell_alloc_old (o := (Obj.cells #[.int .i64 0, .int .i64 0, .float .f32 0, .float .f32 0] 67)) k1
  have m2 := cell_alloc_old (o := (Obj.cells #[.int .i64 0, .int .i64 0, .float .f32 0, .float .f32 0] 67)) k2
  have m3 := cell_alloc_old (o := (Obj.cells #[.int .i64 0, .int .i64 0, .float .f32 0, .float .f32 0] 67)) k3
  go_wp2_with fail
  clear k0 k1 k2 k3
  clear m0 m1 m2 m3
  have hb := (Below.refl z9.heap.size z9).alloc (Nat.le_refl _) (Obj.cells #[.int .i64 0, .int .i64 0, .float .f32 0, .float .f32 0] 67)
  have HS := hd (blk_new z9 #[.int .i64 0, .int .i64 0, .float .f32 0, .float .f32 0] 67)
  replace HQ := hd ((hb.block _ (blk_lt HQ.out)).trans HQ.out)
  replace HB := hd (HB.out.trans (hb.mono HB.out.size))
  replace RL := hd ((RL.out.below hb (Nat.le_refl _)).mono hb.size)
  replace RG := hd ((RG.out.below hb (Nat.le_refl _)).mono hb.size)
  replace RH := hd ((RH.out.below hb (Nat.le_refl _)).mono hb.size)
  replace RO := hd ((RO.out.below hb (Nat.le_refl _)).mono hb.size)
  replace RB := hd ((RB.out.below hb (Nat.le_refl _)).mono hb.size)
  clear hb
  generalize hsb : z9.heap.size = sb at *
  generalize z9.alloc (Obj.cells #[.int .i64 0, .int .i64 0, .float .f32 0, .float .f32 0] 67) = W2 at *
  clear hsb
  refine (CR.out _ _ _ RL.out RG.out).mono ?_
  rintro e z10 ⟨rfl, hb⟩
  replace HQ := hd ((hb.block _ (blk_lt HQ.out)).trans HQ.out)
  replace HS := hd ((hb.block _ (blk_lt HS.out)).trans HS.out)
  replace HB := hd (HB.out.trans (hb.mono HB.out.size))
  replace RL := hd ((RL.out.below hb (Nat.le_refl _)).mono hb.size)
  replace RG := hd ((RG.out.below hb (Nat.le_refl _)).mono hb.size)
  replace RH := hd ((RH.out.below hb (Nat.le_refl _)).mono hb.size)
  replace RO := hd ((RO.out.below hb (Nat.le_refl _)).mono hb.size)
  replace RB := hd ((RB.out.below hb (Nat.le_refl _)).mono hb.size)
  clear hb
  go_wp2_with fail
  refine (refRange_any wd 1 4096 _).mono ?_
  rintro e z11 ⟨rfl, hb⟩
  replace HQ := hd ((hb.block _ (blk_lt HQ.out)).trans HQ.out)
  replace HS := hd ((hb.block _ (blk_lt HS.out)).trans HS.out)
  replace HB := hd (HB.out.trans (hb.mono HB.out.size))
  replace RL := hd ((RL.out.below hb (Nat.le_refl _)).mono hb.size)
  replace RG := hd ((RG.out.below hb (Nat.le_refl _)).mono hb.size)
  replace RH := hd ((RH.out.below hb (Nat.le_refl _)).mono hb.size)
  replace RO := hd ((RO.out.below hb (Nat.le_refl _)).mono hb.size)
  replace RB := hd ((RB.out.below hb (Nat.le_refl _)).mono hb.size)
  clear hb
  go_wp2_with fail
  have hb := (Below.refl z11.heap.size z11).alloc (Nat.le_refl _) (Obj.cells #[.int .i64 E, .int .i64 (rng wd 1 4096)] 3)
  have hR := hd (Rd.new z11 #[.int .i64 E, .int .i64 (rng wd 1 4096)] 3 2 ([E, rng wd 1 4096].map (Value.int .i64)) rfl (by decide))
  replace HQ := hd ((hb.block _ (blk_lt HQ.out)).trans HQ.out)
  replace HS := hd ((hb.block _ (blk_lt HS.out)).trans HS.out)
  replace HB := hd (HB.out.trans (hb.mono HB.out.size))
  replace RL := hd ((RL.out.below hb (Nat.le_refl _)).mono hb.size)
  replace RG := hd ((RG.out.below hb (Nat.le_refl _)).mono hb.size)
  replace RH := hd ((RH.out.below hb (Nat.le_refl _)).mono hb.size)
  replace RO := hd ((RO.out.below hb (Nat.le_refl _)).mono hb.size)
  replace RB := hd ((RB.out.below hb (Nat.le_refl _)).mono hb.size)
  clear hb
  generalize z11.alloc (Obj.cells #[.int .i64 E, .int .i64 (rng wd 1 4096)] 3) = V0 at *
  refine (lawFirst_any _ [E, rng wd 1 4096] _ hR.out).mono ?_
  rw [H1.out]
  rintro e w' ⟨rfl, rfl⟩
  clear hR
  go_wp2_with fail
  refine (rLev_any lev _).mono ?_
  rintro e z13 ⟨rfl, hb⟩
  replace HQ := hd ((hb.block _ (blk_lt HQ.out)).trans HQ.out)
  replace HS := hd ((hb.block _ (blk_lt HS.out)).trans HS.out)
  replace HB := hd (HB.out.trans (hb.mono HB.out.size))
  replace RL := hd ((RL.out.below hb (Nat.le_refl _)).mono hb.size)
  replace RG := hd ((RG.out.below hb (Nat.le_refl _)).mono hb.size)
  replace RH := hd ((RH.out.below hb (Nat.le_refl _)).mono hb.size)
  replace RO := hd ((RO.out.below hb (Nat.le_refl _)).mono hb.size)
  replace RB := hd ((RB.out.below hb (Nat.le_refl _)).mono hb.size)
  clear hb
  go_wp2_with fail
  have hb := (Below.refl z13.heap.size z13).alloc (Nat.le_refl _) (Obj.cells #[.int .i64 E, .int .i64 (chkLev lev)] 3)
  have hR := hd (Rd.new z13 #[.int .i64 E, .int .i64 (chkLev lev)] 3 2 ([E, chkLev lev].map (Value.int .i64)) rfl (by decide))
  replace HQ := hd ((hb.block _ (blk_lt HQ.out)).trans HQ.out)
  replace HS := hd ((hb.block _ (blk_lt HS.out)).trans HS.out)
  replace HB := hd (HB.out.trans (hb.mono HB.out.size))
  replace RL := hd ((RL.out.below hb (Nat.le_refl _)).mono hb.size)
  replace RG := hd ((RG.out.below hb (Nat.le_refl _)).mono hb.size)
  replace RH := hd ((RH.out.below hb (Nat.le_refl _)).mono hb.size)
  replace RO := hd ((RO.out.below hb (Nat.le_refl _)).mono hb.size)
  replace RB := hd ((RB.out.below hb (Nat.le_refl _)).mono hb.size)
  clear hb
  generalize z13.alloc (Obj.cells #[.int .i64 E, .int .i64 (chkLev lev)] 3) = V1 at *
  refine (lawFirst_any _ [E, chkLev lev] _ hR.out).mono ?_
  rw [H3.out]
  rintro e w' ⟨rfl, rfl⟩
  clear hR
  have k0 := blk_cell HQ.out 0
  have k1 := blk_cell HQ.out 1
  have k2 := blk_cell HQ.out 2
  have k3 := blk_cell HQ.out 3
  simp at k0 k1 k2 k3
  have m0 := cell_alloc_old (o := (Obj.cells #[.int .i64 0, .int .i64 0, .float .f32 0, .float .f32 0] 71)) k0
  have m1 := cell_alloc_old (o := (Obj.cells #[.int .i64 0, .int .i64 0, .float .f32 0, .float .f32 0] 71)) k1
  have m2 := cell_alloc_old (o := (Obj.cells #[.int .i64 0, .int .i64 0, .float .f32 0, .float .f32 0] 71)) k2
  have m3 := cell_alloc_old (o := (Obj.cells #[.int .i64 0, .int .i64 0, .float .f32 0, .float .f32 0] 71)) k3
  go_wp2_with fail
  clear k0 k1 k2 k3
  clear m0 m1 m2 m3
  have HBV := hd HB.out
  have QH := hd RH.out
  have QO := hd RO.out
  have QB := hd RB.out
  have hb := (Below.refl V1.heap.size V1).alloc (Nat.le_refl _) (Obj.cells #[.int .i64 0, .int .i64 0, .float .f32 0, .float .f32 0] 71)
  have HY := hd hb
  have SY := hd (show V1.heap.size < (V1.alloc (Obj.cells #[.int .i64 0, .int .i64 0, .float .f32 0, .float .f32 0] 71)).heap.size by simp)
  have HT := hd (blk_new V1 #[.int .i64 0, .int .i64 0, .float .f32 0, .float .f32 0] 71)
  have hsne : sb ≠ V1.heap.size := by have := blk_lt HS.out; omega
  replace HQ := hd ((hb.block _ (blk_lt HQ.out)).trans HQ.out)
  replace HS := hd ((hb.block _ (blk_lt HS.out)).trans HS.out)
  replace HB := hd (HB.out.trans (hb.mono HB.out.size))
  replace RL := hd ((RL.out.below hb (Nat.le_refl _)).mono hb.size)
  replace RG := hd ((RG.out.below hb (Nat.le_refl _)).mono hb.size)
  replace RH := hd ((RH.out.below hb (Nat.le_refl _)).mono hb.size)
  replace RO := hd ((RO.out.below hb (Nat.le_refl _)).mono hb.size)
  replace RB := hd ((RB.out.below hb (Nat.le_refl _)).mono hb.size)
  clear hb
  generalize V1.alloc (Obj.cells #[.int .i64 0, .int .i64 0, .float .f32 0, .float .f32 0] 71) = W5 at *
  have HZ := hd (Nat.le_refl W5.heap.size)
  have SW := hd SY.out
  have HT2 := hd HT.out
  have HS2 := hd HS.out
  clear HT HS RL RG HQ HY
  have U1 := hd (Rd.nil W5 W5.heap.size)
  have U2 := hd (Rd.nil W5 W5.heap.size)
  have U3 := hd (Rd.nil W5 W5.heap.size)
  refine (sameInts_any _ _ [] [] _ RH.out U1.out).mono ?_
  rw [sameF_refl]
  rintro e z15 ⟨rfl, hb⟩
  replace HS2 := hd ((hb.block _ (blk_lt HS2.out)).trans HS2.out)
  replace HT2 := hd ((hb.block _ (blk_lt HT2.out)).trans HT2.out)
  replace HB := hd (HB.out.trans (hb.mono HB.out.size))
  replace RH := hd ((RH.out.below hb (Nat.le_refl _)).mono hb.size)
  replace RO := hd ((RO.out.below hb (Nat.le_refl _)).mono hb.size)
  replace RB := hd ((RB.out.below hb (Nat.le_refl _)).mono hb.size)
  replace U1 := hd ((U1.out.below hb (Nat.le_refl _)).mono hb.size)
  replace U2 := hd ((U2.out.below hb (Nat.le_refl _)).mono hb.size)
  replace U3 := hd ((U3.out.below hb (Nat.le_refl _)).mono hb.size)
  clear hb
  go_wp2_with fail
  refine (sameInts_any _ _ [] [] _ RO.out U2.out).mono ?_
  rw [sameF_refl]
  rintro e z16 ⟨rfl, hb⟩
  replace HS2 := hd ((hb.block _ (blk_lt HS2.out)).trans HS2.out)
  replace HT2 := hd ((hb.block _ (blk_lt HT2.out)).trans HT2.out)
  replace HB := hd (HB.out.trans (hb.mono HB.out.size))
  replace RH := hd ((RH.out.below hb (Nat.le_refl _)).mono hb.size)
  replace RO := hd ((RO.out.below hb (Nat.le_refl _)).mono hb.size)
  replace RB := hd ((RB.out.below hb (Nat.le_refl _)).mono hb.size)
  replace U1 := hd ((U1.out.below hb (Nat.le_refl _)).mono hb.size)
  replace U2 := hd ((U2.out.below hb (Nat.le_refl _)).mono hb.size)
  replace U3 := hd ((U3.out.below hb (Nat.le_refl _)).mono hb.size)
  clear hb
  go_wp2_with fail
  refine (sameSpans_any _ _ [] [] _ RB.out U3.out).mono ?_
  rw [sm_refl]
  rintro e z17 ⟨rfl, hb⟩
  replace HS2 := hd ((hb.block _ (blk_lt HS2.out)).trans HS2.out)
  replace HT2 := hd ((hb.block _ (blk_lt HT2.out)).trans HT2.out)
  replace HB := hd (HB.out.trans (hb.mono HB.out.size))
  replace RH := hd ((RH.out.below hb (Nat.le_refl _)).mono hb.size)
  replace RO := hd ((RO.out.below hb (Nat.le_refl _)).mono hb.size)
  replace RB := hd ((RB.out.below hb (Nat.le_refl _)).mono hb.size)
  replace U1 := hd ((U1.out.below hb (Nat.le_refl _)).mono hb.size)
  replace U2 := hd ((U2.out.below hb (Nat.le_refl _)).mono hb.size)
  replace U3 := hd ((U3.out.below hb (Nat.le_refl _)).mono hb.size)
  clear hb
  have s0 := blk_cell HS2.out 0
  have s1 := blk_cell HS2.out 1
  have s2 := blk_cell HS2.out 2
  have s3 := blk_cell HS2.out 3
  have t0 := blk_cell HT2.out 0
  have t1 := blk_cell HT2.out 1
  have t2 := blk_cell HT2.out 2
  have t3 := blk_cell HT2.out 3
  simp at s0 s1 s2 s3 t0 t1 t2 t3
  go_wp2_with fail
  go_returns
  exact ⟨rfl, HB.out⟩
end Go.Proofs.YtcekfcefdmejeaaGreatDoor
