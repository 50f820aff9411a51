/-
  The walk of GaugeTexts. Conditions: written at each.
-/
import Derived.Test.YtnncmaegmlaabaaGreatDoorProg
import Derived.Test.YtnncmaegmlaabaaGreatDoorYM
import Derived.Test.YtnncmaegmlaabaaGreatDoorYP
import Derived.Test.YtnncmaegmlaabaaGreatDoorQ5
namespace Go.Proofs.YtnncmaegmlaabaaGreatDoor
open Go.RowKit
attribute [local go_sem] Oper.semAt_some

theorem box4t {W : World} {g : Nat} {t : TypeId} {a0 a1 a2 a3 : Value} (h : W.heap[g]? = some (.cells #[a0, a1, a2, a3] t (0, 0))) : W.cell? ⟨g, 0, none⟩ = some a0 ∧ W.cell? ⟨g, 1, none⟩ = some a1 ∧ W.cell? ⟨g, 2, none⟩ = some a2 ∧ W.cell? ⟨g, 3, none⟩ = some a3 ∧ W.frozen? ⟨g, 0, none⟩ = false ∧ W.frozen? ⟨g, 1, none⟩ = false ∧ W.frozen? ⟨g, 2, none⟩ = false ∧ W.frozen? ⟨g, 3, none⟩ = false :=
  ⟨blk_cell h 0, blk_cell h 1, blk_cell h 2, blk_cell h 3, blk_frozen h 0, blk_frozen h 1, blk_frozen h 2, blk_frozen h 3⟩

set_option maxRecDepth 1000000 in
set_option maxHeartbeats 8000000 in
theorem texts_ok (HA : Hid Awake) (nm : ByteArray) (st : Int) (A A2 : Option Addr) (c c2 : Nat) (bs : List Nat) (gs : List (Int × Int)) (s : ByteArray) (code : ByteArray) (w : World)
    (HL : Hid (Rd w w.heap.size (.slice A bs.length c) bs.length (flc bs))) (HG : Hid (Rd w w.heap.size (.slice A2 gs.length c2) gs.length (spc gs))) (FL : Hid (Full (.slice A bs.length c))) (FG : Hid (Full (.slice A2 gs.length c2)))
    (S1 : Hid (shortR nm.size bs.length gs.length = true)) (HN : Hid (bs.length ≤ 100000 ∧ gs.length ≤ 100000)) (hs : s.size ≤ 300)
    (CR : Hid (∀ (W : World) (lv gv : Value), Below w.heap.size w W → Rd W W.heap.size lv bs.length (flc bs) → Rd W W.heap.size gv gs.length (spc gs) → Calls Tryz.prog 11 #[.agg #[.string nm, .int .i64 st, lv, gv]] W fun e w' => e = .returned (.int .i64 0) ∧ Below W.heap.size W w'))
    (GE : Hid (∀ (W : World) (lv gv : Value), Below w.heap.size w W → Rd W W.heap.size lv bs.length (flc bs) → Rd W W.heap.size gv gs.length (spc gs) → Calls Tryz.prog 8 #[.agg #[.string nm, .int .i64 st, lv, gv]] W fun e w' => e = .returned (.tuple #[.string code, .int .i64 0]) ∧ Below W.heap.size W w'))
    (RE : Hid (∀ (W : World) (lv gv : Value), Below w.heap.size w W → Rd W W.heap.size lv bs.length (flc bs) → Rd W W.heap.size gv gs.length (spc gs) → Calls Tryz.prog 12 #[.agg #[.string nm, .int .i64 st, lv, gv]] W fun e w' => e = .returned (.string code) ∧ Below W.heap.size W w'))
    (GD : Hid (∀ W : World, Below w.heap.size w W → Calls Tryz.prog 10 #[.string s] W (Txtd s W)))
    (RD : Hid (∀ W : World, Calls Tryz.prog 13 #[.string s] W (Txtd s W))) :
    Calls Tryz.prog 3 #[.agg #[.string nm, .int .i64 st, .slice A bs.length c, .slice A2 gs.length c2], .string s] w fun e w' => e = .returned (.bool true) ∧ Below w.heap.size w w' := by
  have hb1 := (Below.refl w.heap.size w).alloc (Nat.le_refl _) (Obj.cells #[.string nm, .int .i64 st, .slice A bs.length c, .slice A2 gs.length c2] 25)
  have HQ := hd (show (w.alloc (Obj.cells #[.string nm, .int .i64 st, .slice A bs.length c, .slice A2 gs.length c2] 25)).heap[w.heap.size]? = some (.cells #[.string nm, .int .i64 st, .slice A bs.length c, .slice A2 gs.length c2] 25 (0, 0)) from blk_new _ _ _)
  have HB := hd hb1
  have RL := hd ((HL.out.below hb1 (Nat.le_refl _)).mono hb1.size)
  have RG := hd ((HG.out.below hb1 (Nat.le_refl _)).mono hb1.size)
  have HS := hd hs
  have hlen : ¬ (300 : Int) < (s.size : Int) := by omega
  clear hb1 hs
  go_enter Tryz.func3, Tryz.ntmps3
  go_wp2_with fail
  generalize (w.alloc (Obj.cells #[.string nm, .int .i64 st, .slice A bs.length c, .slice A2 gs.length c2] 25)) = W1 at *
  refine (HA.out _).mono ?_
  rintro e za ⟨rfl, hb⟩
  replace HQ := hd ((hb.block _ (blk_lt HQ.out)).trans HQ.out)
  replace HB := hd (HB.out.trans (hb.mono HB.out.size))
  replace RL := hd ((RL.out.below hb (Nat.le_refl _)).mono hb.size)
  replace RG := hd ((RG.out.below hb (Nat.le_refl _)).mono hb.size)
  clear hb
  have hZ := box4t HQ.out
  obtain ⟨k0, k1, k2, k3, kf0, kf1, kf2, kf3⟩ := hZ
  go_wp2_with fail
  refine (short_any nm st A A2 bs.length c gs.length c2 _).mono ?_
  rw [S1.out]
  rintro e z0 ⟨rfl, hb⟩
  replace HQ := hd ((hb.block _ (blk_lt HQ.out)).trans HQ.out)
  replace HB := hd (HB.out.trans (hb.mono HB.out.size))
  replace RL := hd ((RL.out.below hb (Nat.le_refl _)).mono hb.size)
  replace RG := hd ((RG.out.below hb (Nat.le_refl _)).mono hb.size)
  clear hb
  clear k0 k1 k2 k3 kf0 kf1 kf2 kf3
  have hZ := box4t HQ.out
  obtain ⟨k0, k1, k2, k3, kf0, kf1, kf2, kf3⟩ := hZ
  go_wp2_with fail
  refine (lawRecord_any nm st _ _ bs gs _ RL.out RG.out FL.out FG.out HN.out.1 HN.out.2).mono ?_
  rintro e z1 ⟨u1, u2, rfl, hu1, hu2, -, -, hb⟩
  have U1 := hd hu1
  have U2 := hd hu2
  clear hu1 hu2
  replace HQ := hd ((hb.block _ (blk_lt HQ.out)).trans HQ.out)
  replace HB := hd (HB.out.trans (hb.mono HB.out.size))
  replace RL := hd ((RL.out.below hb (Nat.le_refl _)).mono hb.size)
  replace RG := hd ((RG.out.below hb (Nat.le_refl _)).mono hb.size)
  clear hb
  clear k0 k1 k2 k3 kf0 kf1 kf2 kf3
  go_wp2_with fail
  refine (GE.out _ _ _ HB.out U1.out U2.out).mono ?_
  rintro e z2 ⟨rfl, hb⟩
  clear U1 U2
  replace HQ := hd ((hb.block _ (blk_lt HQ.out)).trans HQ.out)
  replace HB := hd (HB.out.trans (hb.mono HB.out.size))
  replace RL := hd ((RL.out.below hb (Nat.le_refl _)).mono hb.size)
  replace RG := hd ((RG.out.below hb (Nat.le_refl _)).mono hb.size)
  clear hb
  go_wp2_with fail
  refine (GD.out _ HB.out).mono ?_
  rintro e z3 hde
  obtain ⟨dn, ds, AX, AY, nx, cx, ny, cy, rfl, hb, HDV⟩ := txtd_one hde
  clear hde
  replace HQ := hd ((hb.block _ (blk_lt HQ.out)).trans HQ.out)
  replace HB := hd (HB.out.trans (hb.mono HB.out.size))
  replace RL := hd ((RL.out.below hb (Nat.le_refl _)).mono hb.size)
  replace RG := hd ((RG.out.below hb (Nat.le_refl _)).mono hb.size)
  clear hb
  have hb := (Below.refl z3.heap.size z3).alloc (Nat.le_refl _) (Obj.cells #[.string dn, .int .i64 ds, .slice AX nx cx, .slice AY ny cy] 31)
  have HX := hd (blk_new z3 #[.string dn, .int .i64 ds, .slice AX nx cx, .slice AY ny cy] 31)
  replace HQ := hd ((hb.block _ (blk_lt HQ.out)).trans HQ.out)
  replace HB := hd (HB.out.trans (hb.mono HB.out.size))
  replace RL := hd ((RL.out.below hb (Nat.le_refl _)).mono hb.size)
  replace RG := hd ((RG.out.below hb (Nat.le_refl _)).mono hb.size)
  replace HDV := hd (HDV.out.keep hb)
  clear hb
  have hZ := box4t HQ.out
  obtain ⟨k0, k1, k2, k3, kf0, kf1, kf2, kf3⟩ := hZ
  obtain ⟨TE, hTE⟩ : ∃ x, x = txtE s := ⟨_, rfl⟩
  obtain ⟨TA, hTA⟩ : ∃ x, x = txtAt s := ⟨_, rfl⟩
  have HTE := hd hTE
  have HTA := hd hTA
  rw [← hTE, ← hTA]
  clear hTE hTA
  go_wp2_with fail
  generalize z3.alloc (Obj.cells #[.string dn, .int .i64 ds, .slice AX nx cx, .slice AY ny cy] 31) = W4 at *
  generalize z3.heap.size = X4 at *
  clear k0 k1 k2 k3 kf0 kf1 kf2 kf3
  refine (CR.out _ _ _ HB.out RL.out RG.out).mono ?_
  rintro e zc ⟨rfl, hb⟩
  replace HQ := hd ((hb.block _ (blk_lt HQ.out)).trans HQ.out)
  replace HX := hd ((hb.block _ (blk_lt HX.out)).trans HX.out)
  replace HB := hd (HB.out.trans (hb.mono HB.out.size))
  replace RL := hd ((RL.out.below hb (Nat.le_refl _)).mono hb.size)
  replace RG := hd ((RG.out.below hb (Nat.le_refl _)).mono hb.size)
  replace HDV := hd (HDV.out.keep hb)
  clear hb
  have hZ := box4t HQ.out
  obtain ⟨k0, k1, k2, k3, kf0, kf1, kf2, kf3⟩ := hZ
  go_wp2_with fail
  refine (RE.out _ _ _ HB.out RL.out RG.out).mono ?_
  rintro e z4 ⟨rfl, hb⟩
  replace HQ := hd ((hb.block _ (blk_lt HQ.out)).trans HQ.out)
  replace HX := hd ((hb.block _ (blk_lt HX.out)).trans HX.out)
  replace HB := hd (HB.out.trans (hb.mono HB.out.size))
  replace RL := hd ((RL.out.below hb (Nat.le_refl _)).mono hb.size)
  replace RG := hd ((RG.out.below hb (Nat.le_refl _)).mono hb.size)
  replace HDV := hd (HDV.out.keep hb)
  clear hb
  clear k0 k1 k2 k3 kf0 kf1 kf2 kf3
  go_wp2_with fail
  refine (RD.out _).mono ?_
  rintro e z5 hde
  obtain ⟨dn', ds', AX', AY', nx', cx', ny', cy', rfl, hb, HDW⟩ := txtd_one hde
  clear hde
  replace HQ := hd ((hb.block _ (blk_lt HQ.out)).trans HQ.out)
  replace HX := hd ((hb.block _ (blk_lt HX.out)).trans HX.out)
  replace HB := hd (HB.out.trans (hb.mono HB.out.size))
  replace RL := hd ((RL.out.below hb (Nat.le_refl _)).mono hb.size)
  replace RG := hd ((RG.out.below hb (Nat.le_refl _)).mono hb.size)
  replace HDV := hd (HDV.out.keep hb)
  clear hb
  rw [← HTE.out, ← HTA.out]
  have hb := (Below.refl z5.heap.size z5).alloc (Nat.le_refl _) (Obj.cells #[.string dn', .int .i64 ds', .slice AX' nx' cx', .slice AY' ny' cy'] 25)
  have HY := hd (blk_new z5 #[.string dn', .int .i64 ds', .slice AX' nx' cx', .slice AY' ny' cy'] 25)
  replace HQ := hd ((hb.block _ (blk_lt HQ.out)).trans HQ.out)
  replace HX := hd ((hb.block _ (blk_lt HX.out)).trans HX.out)
  replace HB := hd (HB.out.trans (hb.mono HB.out.size))
  replace RL := hd ((RL.out.below hb (Nat.le_refl _)).mono hb.size)
  replace RG := hd ((RG.out.below hb (Nat.le_refl _)).mono hb.size)
  replace HDV := hd (HDV.out.keep hb)
  replace HDW := hd (HDW.out.keep hb)
  clear hb
  have hZ := box4t HX.out
  obtain ⟨k0, k1, k2, k3, kf0, kf1, kf2, kf3⟩ := hZ
  have hZ := box4t HY.out
  obtain ⟨y0, y1, y2, y3, yf0, yf1, yf2, yf3⟩ := hZ
  go_wp2_with fail
  generalize z5.alloc (Obj.cells #[.string dn', .int .i64 ds', .slice AX' nx' cx', .slice AY' ny' cy'] 25) = W9 at *
  generalize z5.heap.size = X9 at *
  clear k0 k1 k2 k3 kf0 kf1 kf2 kf3
  clear y0 y1 y2 y3 yf0 yf1 yf2 yf3
  rw [HTE.out]
  refine (told_tv s (by have := HS.out; omega) _ _ _ _ _ _ _ _ _ _ _ _ _ _ _ _ _ HDV.out HDW.out).mono ?_
  rintro e zt ⟨rfl, hb⟩
  replace HB := hd (HB.out.trans (hb.mono HB.out.size))
  clear hb
  go_wp2_with fail
  go_returns
  exact ⟨rfl, HB.out⟩

set_option maxRecDepth 1000000 in
set_option maxHeartbeats 8000000 in
theorem texts_bad (HA : Hid Awake) (nm : ByteArray) (st : Int) (A A2 : Option Addr) (c c2 : Nat) (bs : List Nat) (gs : List (Int × Int)) (s : ByteArray) (E : Int) (w : World)
    (HL : Hid (Rd w w.heap.size (.slice A bs.length c) bs.length (flc bs))) (HG : Hid (Rd w w.heap.size (.slice A2 gs.length c2) gs.length (spc gs))) (FL : Hid (Full (.slice A bs.length c))) (FG : Hid (Full (.slice A2 gs.length c2)))
    (S1 : Hid (shortR nm.size bs.length gs.length = true)) (HN : Hid (bs.length ≤ 100000 ∧ gs.length ≤ 100000)) (hs : s.size ≤ 300) (hE : (E == 0) = false)
    (CR : Hid (∀ (W : World) (lv gv : Value), Below w.heap.size w W → Rd W W.heap.size lv bs.length (flc bs) → Rd W W.heap.size gv gs.length (spc gs) → Calls Tryz.prog 11 #[.agg #[.string nm, .int .i64 st, lv, gv]] W fun e w' => e = .returned (.int .i64 E) ∧ Below W.heap.size W w'))
    (GE : Hid (∀ (W : World) (lv gv : Value), Below w.heap.size w W → Rd W W.heap.size lv bs.length (flc bs) → Rd W W.heap.size gv gs.length (spc gs) → Calls Tryz.prog 8 #[.agg #[.string nm, .int .i64 st, lv, gv]] W fun e w' => e = .returned (.tuple #[.string ⟨#[]⟩, .int .i64 E]) ∧ Below W.heap.size W w'))
    
    (GD : Hid (∀ W : World, Below w.heap.size w W → Calls Tryz.prog 10 #[.string s] W (Txtd s W)))
    (RD : Hid (∀ W : World, Calls Tryz.prog 13 #[.string s] W (Txtd s W))) :
    Calls Tryz.prog 3 #[.agg #[.string nm, .int .i64 st, .slice A bs.length c, .slice A2 gs.length c2], .string s] w fun e w' => e = .returned (.bool true) ∧ Below w.heap.size w w' := by
  have hb1 := (Below.refl w.heap.size w).alloc (Nat.le_refl _) (Obj.cells #[.string nm, .int .i64 st, .slice A bs.length c, .slice A2 gs.length c2] 25)
  have HQ := hd (show (w.alloc (Obj.cells #[.string nm, .int .i64 st, .slice A bs.length c, .slice A2 gs.length c2] 25)).heap[w.heap.size]? = some (.cells #[.string nm, .int .i64 st, .slice A bs.length c, .slice A2 gs.length c2] 25 (0, 0)) from blk_new _ _ _)
  have HB := hd hb1
  have RL := hd ((HL.out.below hb1 (Nat.le_refl _)).mono hb1.size)
  have RG := hd ((HG.out.below hb1 (Nat.le_refl _)).mono hb1.size)
  have HS := hd hs
  have hlen : ¬ (300 : Int) < (s.size : Int) := by omega
  clear hb1 hs
  go_enter Tryz.func3, Tryz.ntmps3
  go_wp2_with fail
  generalize (w.alloc (Obj.cells #[.string nm, .int .i64 st, .slice A bs.length c, .slice A2 gs.length c2] 25)) = W1 at *
  refine (HA.out _).mono ?_
  rintro e za ⟨rfl, hb⟩
  replace HQ := hd ((hb.block _ (blk_lt HQ.out)).trans HQ.out)
  replace HB := hd (HB.out.trans (hb.mono HB.out.size))
  replace RL := hd ((RL.out.below hb (Nat.le_refl _)).mono hb.size)
  replace RG := hd ((RG.out.below hb (Nat.le_refl _)).mono hb.size)
  clear hb
  have hZ := box4t HQ.out
  obtain ⟨k0, k1, k2, k3, kf0, kf1, kf2, kf3⟩ := hZ
  go_wp2_with fail
  refine (short_any nm st A A2 bs.length c gs.length c2 _).mono ?_
  rw [S1.out]
  rintro e z0 ⟨rfl, hb⟩
  replace HQ := hd ((hb.block _ (blk_lt HQ.out)).trans HQ.out)
  replace HB := hd (HB.out.trans (hb.mono HB.out.size))
  replace RL := hd ((RL.out.below hb (Nat.le_refl _)).mono hb.size)
  replace RG := hd ((RG.out.below hb (Nat.le_refl _)).mono hb.size)
  clear hb
  clear k0 k1 k2 k3 kf0 kf1 kf2 kf3
  have hZ := box4t HQ.out
  obtain ⟨k0, k1, k2, k3, kf0, kf1, kf2, kf3⟩ := hZ
  go_wp2_with fail
  refine (lawRecord_any nm st _ _ bs gs _ RL.out RG.out FL.out FG.out HN.out.1 HN.out.2).mono ?_
  rintro e z1 ⟨u1, u2, rfl, hu1, hu2, -, -, hb⟩
  have U1 := hd hu1
  have U2 := hd hu2
  clear hu1 hu2
  replace HQ := hd ((hb.block _ (blk_lt HQ.out)).trans HQ.out)
  replace HB := hd (HB.out.trans (hb.mono HB.out.size))
  replace RL := hd ((RL.out.below hb (Nat.le_refl _)).mono hb.size)
  replace RG := hd ((RG.out.below hb (Nat.le_refl _)).mono hb.size)
  clear hb
  clear k0 k1 k2 k3 kf0 kf1 kf2 kf3
  go_wp2_with fail
  refine (GE.out _ _ _ HB.out U1.out U2.out).mono ?_
  rintro e z2 ⟨rfl, hb⟩
  clear U1 U2
  replace HQ := hd ((hb.block _ (blk_lt HQ.out)).trans HQ.out)
  replace HB := hd (HB.out.trans (hb.mono HB.out.size))
  replace RL := hd ((RL.out.below hb (Nat.le_refl _)).mono hb.size)
  replace RG := hd ((RG.out.below hb (Nat.le_refl _)).mono hb.size)
  clear hb
  go_wp2_with fail
  refine (GD.out _ HB.out).mono ?_
  rintro e z3 hde
  obtain ⟨dn, ds, AX, AY, nx, cx, ny, cy, rfl, hb, HDV⟩ := txtd_one hde
  clear hde
  replace HQ := hd ((hb.block _ (blk_lt HQ.out)).trans HQ.out)
  replace HB := hd (HB.out.trans (hb.mono HB.out.size))
  replace RL := hd ((RL.out.below hb (Nat.le_refl _)).mono hb.size)
  replace RG := hd ((RG.out.below hb (Nat.le_refl _)).mono hb.size)
  clear hb
  have hb := (Below.refl z3.heap.size z3).alloc (Nat.le_refl _) (Obj.cells #[.string dn, .int .i64 ds, .slice AX nx cx, .slice AY ny cy] 31)
  have HX := hd (blk_new z3 #[.string dn, .int .i64 ds, .slice AX nx cx, .slice AY ny cy] 31)
  replace HQ := hd ((hb.block _ (blk_lt HQ.out)).trans HQ.out)
  replace HB := hd (HB.out.trans (hb.mono HB.out.size))
  replace RL := hd ((RL.out.below hb (Nat.le_refl _)).mono hb.size)
  replace RG := hd ((RG.out.below hb (Nat.le_refl _)).mono hb.size)
  replace HDV := hd (HDV.out.keep hb)
  clear hb
  have hZ := box4t HQ.out
  obtain ⟨k0, k1, k2, k3, kf0, kf1, kf2, kf3⟩ := hZ
  obtain ⟨TE, hTE⟩ : ∃ x, x = txtE s := ⟨_, rfl⟩
  obtain ⟨TA, hTA⟩ : ∃ x, x = txtAt s := ⟨_, rfl⟩
  have HTE := hd hTE
  have HTA := hd hTA
  rw [← hTE, ← hTA]
  clear hTE hTA
  go_wp2_with fail
  generalize z3.alloc (Obj.cells #[.string dn, .int .i64 ds, .slice AX nx cx, .slice AY ny cy] 31) = W4 at *
  generalize z3.heap.size = X4 at *
  clear k0 k1 k2 k3 kf0 kf1 kf2 kf3
  refine (CR.out _ _ _ HB.out RL.out RG.out).mono ?_
  rintro e zc ⟨rfl, hb⟩
  replace HQ := hd ((hb.block _ (blk_lt HQ.out)).trans HQ.out)
  replace HX := hd ((hb.block _ (blk_lt HX.out)).trans HX.out)
  replace HB := hd (HB.out.trans (hb.mono HB.out.size))
  replace RL := hd ((RL.out.below hb (Nat.le_refl _)).mono hb.size)
  replace RG := hd ((RG.out.below hb (Nat.le_refl _)).mono hb.size)
  replace HDV := hd (HDV.out.keep hb)
  clear hb
  go_wp2_with fail
  refine (RD.out _).mono ?_
  rintro e z4 hde
  obtain ⟨dn', ds', AX', AY', nx', cx', ny', cy', rfl, hb, HDW⟩ := txtd_one hde
  clear hde
  replace HQ := hd ((hb.block _ (blk_lt HQ.out)).trans HQ.out)
  replace HX := hd ((hb.block _ (blk_lt HX.out)).trans HX.out)
  replace HB := hd (HB.out.trans (hb.mono HB.out.size))
  replace RL := hd ((RL.out.below hb (Nat.le_refl _)).mono hb.size)
  replace RG := hd ((RG.out.below hb (Nat.le_refl _)).mono hb.size)
  replace HDV := hd (HDV.out.keep hb)
  clear hb
  rw [← HTE.out, ← HTA.out]
  have hb := (Below.refl z4.heap.size z4).alloc (Nat.le_refl _) (Obj.cells #[.string dn', .int .i64 ds', .slice AX' nx' cx', .slice AY' ny' cy'] 25)
  have HY := hd (blk_new z4 #[.string dn', .int .i64 ds', .slice AX' nx' cx', .slice AY' ny' cy'] 25)
  replace HQ := hd ((hb.block _ (blk_lt HQ.out)).trans HQ.out)
  replace HX := hd ((hb.block _ (blk_lt HX.out)).trans HX.out)
  replace HB := hd (HB.out.trans (hb.mono HB.out.size))
  replace RL := hd ((RL.out.below hb (Nat.le_refl _)).mono hb.size)
  replace RG := hd ((RG.out.below hb (Nat.le_refl _)).mono hb.size)
  replace HDV := hd (HDV.out.keep hb)
  replace HDW := hd (HDW.out.keep hb)
  clear hb
  have hZ := box4t HX.out
  obtain ⟨k0, k1, k2, k3, kf0, kf1, kf2, kf3⟩ := hZ
  have hZ := box4t HY.out
  obtain ⟨y0, y1, y2, y3, yf0, yf1, yf2, yf3⟩ := hZ
  go_wp2_with fail
  generalize z4.alloc (Obj.cells #[.string dn', .int .i64 ds', .slice AX' nx' cx', .slice AY' ny' cy'] 25) = W9 at *
  generalize z4.heap.size = X9 at *
  clear k0 k1 k2 k3 kf0 kf1 kf2 kf3
  clear y0 y1 y2 y3 yf0 yf1 yf2 yf3
  rw [HTE.out]
  refine (told_tv s (by have := HS.out; omega) _ _ _ _ _ _ _ _ _ _ _ _ _ _ _ _ _ HDV.out HDW.out).mono ?_
  rintro e zt ⟨rfl, hb⟩
  replace HB := hd (HB.out.trans (hb.mono HB.out.size))
  clear hb
  go_wp2_with fail
  go_returns
  exact ⟨rfl, HB.out⟩
end Go.Proofs.YtnncmaegmlaabaaGreatDoor
