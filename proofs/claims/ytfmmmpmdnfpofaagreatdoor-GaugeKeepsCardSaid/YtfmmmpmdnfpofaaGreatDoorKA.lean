/-
  The walk of GaugeKeeps. Conditions: written at each.
-/
import Derived.Test.YtfmmmpmdnfpofaaGreatDoorProg
import Derived.Test.YtfmmmpmdnfpofaaGreatDoorKN
import Derived.Test.YtfmmmpmdnfpofaaGreatDoorET
import Derived.Test.YtfmmmpmdnfpofaaGreatDoorQ4
import Derived.Test.YtfmmmpmdnfpofaaGreatDoorQ5
import Derived.Test.YtfmmmpmdnfpofaaGreatDoorQ6
import Derived.Test.YtfmmmpmdnfpofaaGreatDoorQS
import Derived.Test.YtfmmmpmdnfpofaaGreatDoorAw
import Derived.Deep.RegionHeld3
import Derived.BigQuiet
namespace Go.Proofs.YtfmmmpmdnfpofaaGreatDoor
open Go.RowKit
attribute [local go_sem] Oper.semAt_some

theorem box4k {W : World} {g : Nat} {t : TypeId} {a0 a1 a2 a3 : Value} (h : W.heap[g]? = some (.cells #[a0, a1, a2, a3] t (0, 0))) : W.cell? ⟨g, 0, none⟩ = some a0 ∧ W.cell? ⟨g, 1, none⟩ = some a1 ∧ W.cell? ⟨g, 2, none⟩ = some a2 ∧ W.cell? ⟨g, 3, none⟩ = some a3 ∧ W.frozen? ⟨g, 0, none⟩ = false ∧ W.frozen? ⟨g, 1, none⟩ = false ∧ W.frozen? ⟨g, 2, none⟩ = false ∧ W.frozen? ⟨g, 3, none⟩ = false :=
  ⟨blk_cell h 0, blk_cell h 1, blk_cell h 2, blk_cell h 3, blk_frozen h 0, blk_frozen h 1, blk_frozen h 2, blk_frozen h 3⟩
theorem rd_pre {W : World} {B n m c : Nat} {A : Option Addr} {l : List Ru} (h : Rd W B (.slice A n c) n (ruc l)) (hl : l.length = n) (hm : m ≤ n) : Rd W B (.slice A m c) m (ruc (l.take m)) := by
  obtain ⟨A', c', e', h1, h2, hx⟩ := h
  cases e'
  refine ⟨A, c, rfl, by omega, h2, fun h0 => ?_⟩
  obtain ⟨b, o, rfl, hb, hc⟩ := hx (by omega)
  refine ⟨b, o, rfl, hb, fun j hj => ?_⟩
  have hs : ruc l = ruc (l.take m) ++ ruc (l.drop m) := by simp only [ruc]; rw [← List.flatMap_append, List.take_append_drop]
  rw [hc j (by rw [hs, List.length_append]; omega), hs, List.getElem?_append_left hj]
/-- Integers, or a record, and no error. -/
def GkR (l : List Int) (w : World) (e : Ending) (w' : World) : Prop :=
  ∃ v, e = .returned (.tuple #[v, .int .i64 0]) ∧ Rd w' w'.heap.size v l.length (l.map (Value.int .i64)) ∧ Below w.heap.size w w'
def GkC (nm : ByteArray) (st : Int) (bs : List Nat) (gs : List (Int × Int)) (w : World) (e : Ending) (w' : World) : Prop :=
  ∃ lv gv, e = .returned (.tuple #[.agg #[.string nm, .int .i64 st, lv, gv], .int .i64 0]) ∧ Rd w' w'.heap.size lv bs.length (flc bs) ∧ Rd w' w'.heap.size gv gs.length (spc gs) ∧ Full lv ∧ Full gv ∧ Below w.heap.size w w'

set_option maxRecDepth 1000000 in
set_option maxHeartbeats 16000000 in
theorem keeps_walk (HA : Hid Awake) (nm : ByteArray) (st : Int) (A A2 A3 : Option Addr) (c c2 c3 : Nat) (bs : List Nat) (gs : List (Int × Int)) (l : List Ru) (m : Nat) (R Z R' : List Int) (CB : List Nat) (CG : List (Int × Int)) (w : World)
    (HL : Hid (Rd w w.heap.size (.slice A bs.length c) bs.length (flc bs))) (HG : Hid (Rd w w.heap.size (.slice A2 gs.length c2) gs.length (spc gs))) (HU : Hid (Rd w w.heap.size (.slice A3 l.length c3) l.length (ruc l))) (FL : Hid (Full (.slice A bs.length c))) (FG : Hid (Full (.slice A2 gs.length c2)))
    (S1 : Hid (shortR nm.size bs.length gs.length = true)) (HN : Hid (bs.length ≤ 100000 ∧ gs.length ≤ 100000 ∧ l.length ≤ 100000 ∧ CB.length ≤ 100000 ∧ CG.length ≤ 100000))
    (CR : Hid (∀ (W : World) (lv gv : Value), Rd W W.heap.size lv bs.length (flc bs) → Rd W W.heap.size gv gs.length (spc gs) → Calls Tryz.prog 8 #[.agg #[.string nm, .int .i64 st, lv, gv]] W fun e w' => e = .returned (.int .i64 0) ∧ Below W.heap.size W w'))
    (CC : Hid (∀ (W : World) (lv gv : Value), Rd W W.heap.size lv CB.length (flc CB) → Rd W W.heap.size gv CG.length (spc CG) → Calls Tryz.prog 8 #[.agg #[.string nm, .int .i64 st, lv, gv]] W fun e w' => e = .returned (.int .i64 0) ∧ Below W.heap.size W w'))
    (CU : Hid (∀ (W : World) (rv : Value), Rd W W.heap.size rv l.length (ruc l) → Calls Tryz.prog 9 #[rv] W fun e w' => e = .returned (.int .i64 0) ∧ Below W.heap.size W w'))
    (GH : Hid (∀ (W : World) (lv gv rv : Value), Rd W W.heap.size lv bs.length (flc bs) → Rd W W.heap.size gv gs.length (spc gs) → Rd W W.heap.size rv l.length (ruc l) → Calls Tryz.prog 10 #[.agg #[.string nm, .int .i64 st, lv, gv], rv] W (GkR R W))) (GC : Hid (∀ (W : World) (lv gv rv : Value), Rd W W.heap.size lv bs.length (flc bs) → Rd W W.heap.size gv gs.length (spc gs) → Rd W W.heap.size rv l.length (ruc l) → Calls Tryz.prog 13 #[.agg #[.string nm, .int .i64 st, lv, gv], rv] W (GkC nm st CB CG W)))
    (GF : Hid (∀ (W : World) (lv gv rv : Value), Rd W W.heap.size lv bs.length (flc bs) → Rd W W.heap.size gv gs.length (spc gs) → Rd W W.heap.size rv m (ruc (l.take m)) → Calls Tryz.prog 10 #[.agg #[.string nm, .int .i64 st, lv, gv], rv] W (GkR R' W)))
    (GC2 : Hid (∀ (W : World) (lv gv rv : Value), Rd W W.heap.size lv CB.length (flc CB) → Rd W W.heap.size gv CG.length (spc CG) → Rd W W.heap.size rv l.length (ruc l) → Calls Tryz.prog 13 #[.agg #[.string nm, .int .i64 st, lv, gv], rv] W (GkC nm st CB CG W))) (GH2 : Hid (∀ (W : World) (lv gv rv : Value), Rd W W.heap.size lv CB.length (flc CB) → Rd W W.heap.size gv CG.length (spc CG) → Rd W W.heap.size rv l.length (ruc l) → Calls Tryz.prog 10 #[.agg #[.string nm, .int .i64 st, lv, gv], rv] W (GkR Z W)))
    (hR : Hid (R.length = bs.length ∧ CB.length = bs.length ∧ Z.length = bs.length)) (hR' : Hid (R'.length = bs.length)) (HM : Hid (l ≠ [] → l.length = m + 1))
    (HLC : Hid (sameF feqL 0 CB CB = true))
    (HP : Hid (∀ i, i < bs.length → 0 ≤ R.getD i 0 ∧ R.getD i 0 ≤ (l.length : Int) ∧ Z.getD i 0 = 0 ∧ ((hasL gs (i : Int) = false ∧ R.getD i 0 = 0 ∧ hasL CG (i : Int) = false ∧ feqL (CB.getD i 0) (bs.getD i 0) = true) ∨ (hasL gs (i : Int) = false ∧ 0 < R.getD i 0 ∧ hasL CG (i : Int) = true ∧ feqL (CB.getD i 0) 0 = true) ∨ (hasL gs (i : Int) = true ∧ R.getD i 0 = 0 ∧ hasL CG (i : Int) = true ∧ feqL (CB.getD i 0) 0 = true))))
    (HV : Hid (∀ j, j < bs.length → chkLev (CB.getD j 0) = 0)) (HK : Hid (∀ i, i < bs.length → hasL CG (i : Int) = false → ∀ q, q < l.length → Asked CB CG i (l.getD q ru0).1 (l.getD q ru0).2.1 (l.getD q ru0).2.2))
    (HE : Hid (l = [] → sameF feqL 0 CB bs = true ∧ sameF (fun x y : Int × Int => x == y) (0, 0) CG gs = true))
    (HF : Hid (∀ i, i < bs.length → 0 ≤ R'.getD i 0 ∧ (0 < R'.getD i 0 → R.getD i 0 = R'.getD i 0) ∧ (R'.getD i 0 = 0 → R.getD i 0 = 0 ∨ R.getD i 0 = (l.length : Int)))) :
    Calls Tryz.prog 3 #[.agg #[.string nm, .int .i64 st, .slice A bs.length c, .slice A2 gs.length c2], .slice A3 l.length c3] w fun e w' => e = .returned (.bool true) ∧ Below w.heap.size w w' := by
  have hb1 := (Below.refl w.heap.size w).alloc (Nat.le_refl _) (Obj.cells #[.string nm, .int .i64 st, .slice A bs.length c, .slice A2 gs.length c2] 25)
  have HQ := hd (show (w.alloc (Obj.cells #[.string nm, .int .i64 st, .slice A bs.length c, .slice A2 gs.length c2] 25)).heap[w.heap.size]? = some (.cells #[.string nm, .int .i64 st, .slice A bs.length c, .slice A2 gs.length c2] 25 (0, 0)) from blk_new _ _ _)
  have HB := hd hb1
  have RL := hd ((HL.out.below hb1 (Nat.le_refl _)).mono hb1.size)
  have RG := hd ((HG.out.below hb1 (Nat.le_refl _)).mono hb1.size)
  have RU := hd ((HU.out.below hb1 (Nat.le_refl _)).mono hb1.size)
  clear hb1
  go_enter Tryz.func3, Tryz.ntmps3
  go_wp2_with fail
  generalize (w.alloc (Obj.cells #[.string nm, .int .i64 st, .slice A bs.length c, .slice A2 gs.length c2] 25)) = W1 at *
  refine (HA.out _).mono ?_
  rintro e za ⟨rfl, hb⟩
  replace HQ := hd ((hb.block _ (blk_lt HQ.out)).trans HQ.out)
  replace HB := hd (HB.out.trans (hb.mono HB.out.size))
  replace RL := hd ((RL.out.below hb (Nat.le_refl _)).mono hb.size)
  replace RG := hd ((RG.out.below hb (Nat.le_refl _)).mono hb.size)
  replace RU := hd ((RU.out.below hb (Nat.le_refl _)).mono hb.size)
  clear hb
  have hZ := box4k HQ.out
  obtain ⟨k0, k1, k2, k3, kf0, kf1, kf2, kf3⟩ := hZ
  go_wp2_with fail
  refine (short_any nm st A A2 bs.length c gs.length c2 _).mono ?_
  rw [S1.out]
  rintro e z0 ⟨rfl, hb⟩
  replace HQ := hd ((hb.block _ (blk_lt HQ.out)).trans HQ.out)
  replace HB := hd (HB.out.trans (hb.mono HB.out.size))
  replace RL := hd ((RL.out.below hb (Nat.le_refl _)).mono hb.size)
  replace RG := hd ((RG.out.below hb (Nat.le_refl _)).mono hb.size)
  replace RU := hd ((RU.out.below hb (Nat.le_refl _)).mono hb.size)
  clear hb
  clear k0 k1 k2 k3 kf0 kf1 kf2 kf3
  have hZ := box4k HQ.out
  obtain ⟨k0, k1, k2, k3, kf0, kf1, kf2, kf3⟩ := hZ
  go_wp2_with fail
  refine (CR.out _ _ _ RL.out RG.out).mono ?_
  rintro e z1 ⟨rfl, hb⟩
  replace HQ := hd ((hb.block _ (blk_lt HQ.out)).trans HQ.out)
  replace HB := hd (HB.out.trans (hb.mono HB.out.size))
  replace RL := hd ((RL.out.below hb (Nat.le_refl _)).mono hb.size)
  replace RG := hd ((RG.out.below hb (Nat.le_refl _)).mono hb.size)
  replace RU := hd ((RU.out.below hb (Nat.le_refl _)).mono hb.size)
  clear hb
  clear k0 k1 k2 k3 kf0 kf1 kf2 kf3
  go_wp2_with fail
  refine (CU.out _ _ RU.out).mono ?_
  rintro e z2 ⟨rfl, hb⟩
  replace HQ := hd ((hb.block _ (blk_lt HQ.out)).trans HQ.out)
  replace HB := hd (HB.out.trans (hb.mono HB.out.size))
  replace RL := hd ((RL.out.below hb (Nat.le_refl _)).mono hb.size)
  replace RG := hd ((RG.out.below hb (Nat.le_refl _)).mono hb.size)
  replace RU := hd ((RU.out.below hb (Nat.le_refl _)).mono hb.size)
  clear hb
  have hZ := box4k HQ.out
  obtain ⟨k0, k1, k2, k3, kf0, kf1, kf2, kf3⟩ := hZ
  go_wp2_with fail
  refine (lawRecord_any nm st _ _ bs gs _ RL.out RG.out FL.out FG.out HN.out.1 HN.out.2.1).mono ?_
  rintro e z3 ⟨u1, u2, rfl, hu1, hu2, -, -, hb⟩
  have U1 := hd hu1
  have U2 := hd hu2
  clear hu1 hu2
  replace HQ := hd ((hb.block _ (blk_lt HQ.out)).trans HQ.out)
  replace HB := hd (HB.out.trans (hb.mono HB.out.size))
  replace RL := hd ((RL.out.below hb (Nat.le_refl _)).mono hb.size)
  replace RG := hd ((RG.out.below hb (Nat.le_refl _)).mono hb.size)
  replace RU := hd ((RU.out.below hb (Nat.le_refl _)).mono hb.size)
  clear hb
  clear k0 k1 k2 k3 kf0 kf1 kf2 kf3
  go_wp2_with fail
  refine (lawRules_any _ l _ RU.out HN.out.2.2.1).mono ?_
  rintro e z4 ⟨u3, rfl, hu3, hb⟩
  have U3 := hd (rd_of_own hu3)
  clear hu3
  replace HQ := hd ((hb.block _ (blk_lt HQ.out)).trans HQ.out)
  replace HB := hd (HB.out.trans (hb.mono HB.out.size))
  replace RL := hd ((RL.out.below hb (Nat.le_refl _)).mono hb.size)
  replace RG := hd ((RG.out.below hb (Nat.le_refl _)).mono hb.size)
  replace RU := hd ((RU.out.below hb (Nat.le_refl _)).mono hb.size)
  replace U1 := hd ((U1.out.below hb (Nat.le_refl _)).mono hb.size)
  replace U2 := hd ((U2.out.below hb (Nat.le_refl _)).mono hb.size)
  clear hb
  go_wp2_with fail
  refine (GH.out _ _ _ _ U1.out U2.out U3.out).mono ?_
  rintro e z5 ⟨vx, rfl, hv, hb⟩
  obtain ⟨AX, cX, rfl, -⟩ := id hv
  rw [hR.out.1] at hv ⊢
  have RX := hd hv
  clear hv U1 U2 U3
  replace HQ := hd ((hb.block _ (blk_lt HQ.out)).trans HQ.out)
  replace HB := hd (HB.out.trans (hb.mono HB.out.size))
  replace RL := hd ((RL.out.below hb (Nat.le_refl _)).mono hb.size)
  replace RG := hd ((RG.out.below hb (Nat.le_refl _)).mono hb.size)
  replace RU := hd ((RU.out.below hb (Nat.le_refl _)).mono hb.size)
  clear hb
  have hZ := box4k HQ.out
  obtain ⟨k0, k1, k2, k3, kf0, kf1, kf2, kf3⟩ := hZ
  go_wp2_with fail
  refine (lawRecord_any nm st _ _ bs gs _ RL.out RG.out FL.out FG.out HN.out.1 HN.out.2.1).mono ?_
  rintro e z6 ⟨u1, u2, rfl, hu1, hu2, -, -, hb⟩
  have U1 := hd hu1
  have U2 := hd hu2
  clear hu1 hu2
  replace HQ := hd ((hb.block _ (blk_lt HQ.out)).trans HQ.out)
  replace HB := hd (HB.out.trans (hb.mono HB.out.size))
  replace RL := hd ((RL.out.below hb (Nat.le_refl _)).mono hb.size)
  replace RG := hd ((RG.out.below hb (Nat.le_refl _)).mono hb.size)
  replace RU := hd ((RU.out.below hb (Nat.le_refl _)).mono hb.size)
  replace RX := hd ((RX.out.below hb (Nat.le_refl _)).mono hb.size)
  clear hb
  clear k0 k1 k2 k3 kf0 kf1 kf2 kf3
  go_wp2_with fail
  refine (lawRules_any _ l _ RU.out HN.out.2.2.1).mono ?_
  rintro e z7 ⟨u3, rfl, hu3, hb⟩
  have U3 := hd (rd_of_own hu3)
  clear hu3
  replace HQ := hd ((hb.block _ (blk_lt HQ.out)).trans HQ.out)
  replace HB := hd (HB.out.trans (hb.mono HB.out.size))
  replace RL := hd ((RL.out.below hb (Nat.le_refl _)).mono hb.size)
  replace RG := hd ((RG.out.below hb (Nat.le_refl _)).mono hb.size)
  replace RU := hd ((RU.out.below hb (Nat.le_refl _)).mono hb.size)
  replace RX := hd ((RX.out.below hb (Nat.le_refl _)).mono hb.size)
  replace U1 := hd ((U1.out.below hb (Nat.le_refl _)).mono hb.size)
  replace U2 := hd ((U2.out.below hb (Nat.le_refl _)).mono hb.size)
  clear hb
  go_wp2_with fail
  refine (GC.out _ _ _ _ U1.out U2.out U3.out).mono ?_
  rintro e z8 ⟨lc, gc, rfl, hl, hg, hfl, hfg, hb⟩
  obtain ⟨AC, cC, rfl, -⟩ := id hl
  obtain ⟨AD, cD, rfl, -⟩ := id hg
  rw [hR.out.2.1] at hl hfl ⊢
  have RC := hd hl
  have RD := hd hg
  have FC := hd hfl
  have FD := hd hfg
  clear hl hg hfl hfg U1 U2 U3
  replace HQ := hd ((hb.block _ (blk_lt HQ.out)).trans HQ.out)
  replace HB := hd (HB.out.trans (hb.mono HB.out.size))
  replace RL := hd ((RL.out.below hb (Nat.le_refl _)).mono hb.size)
  replace RG := hd ((RG.out.below hb (Nat.le_refl _)).mono hb.size)
  replace RU := hd ((RU.out.below hb (Nat.le_refl _)).mono hb.size)
  replace RX := hd ((RX.out.below hb (Nat.le_refl _)).mono hb.size)
  clear hb
  have hb := (Below.refl z8.heap.size z8).alloc (Nat.le_refl _) (Obj.cells #[.string nm, .int .i64 st, .slice AC bs.length cC, .slice AD CG.length cD] 35)
  have HC := hd (blk_new z8 #[.string nm, .int .i64 st, .slice AC bs.length cC, .slice AD CG.length cD] 35)
  replace HQ := hd ((hb.block _ (blk_lt HQ.out)).trans HQ.out)
  replace HB := hd (HB.out.trans (hb.mono HB.out.size))
  replace RL := hd ((RL.out.below hb (Nat.le_refl _)).mono hb.size)
  replace RG := hd ((RG.out.below hb (Nat.le_refl _)).mono hb.size)
  replace RU := hd ((RU.out.below hb (Nat.le_refl _)).mono hb.size)
  replace RX := hd ((RX.out.below hb (Nat.le_refl _)).mono hb.size)
  replace RC := hd ((RC.out.below hb (Nat.le_refl _)).mono hb.size)
  replace RD := hd ((RD.out.below hb (Nat.le_refl _)).mono hb.size)
  clear hb
  have hZ := box4k HC.out
  obtain ⟨d0, d1, d2, d3, df0, df1, df2, df3⟩ := hZ
  go_wp2_with fail
  generalize z8.alloc (Obj.cells #[.string nm, .int .i64 st, .slice AC bs.length cC, .slice AD CG.length cD] 35) = W5 at *
  generalize z8.heap.size = C at *
  clear d0 d1 d2 d3 df0 df1 df2 df3
  refine (own_rec nm st AC AD bs.length cC CG.length cD _).mono ?_
  rintro e z9 ⟨rfl, hb⟩
  replace HQ := hd ((hb.block _ (blk_lt HQ.out)).trans HQ.out)
  replace HC := hd ((hb.block _ (blk_lt HC.out)).trans HC.out)
  replace HB := hd (HB.out.trans (hb.mono HB.out.size))
  replace RL := hd ((RL.out.below hb (Nat.le_refl _)).mono hb.size)
  replace RG := hd ((RG.out.below hb (Nat.le_refl _)).mono hb.size)
  replace RU := hd ((RU.out.below hb (Nat.le_refl _)).mono hb.size)
  replace RX := hd ((RX.out.below hb (Nat.le_refl _)).mono hb.size)
  replace RC := hd ((RC.out.below hb (Nat.le_refl _)).mono hb.size)
  replace RD := hd ((RD.out.below hb (Nat.le_refl _)).mono hb.size)
  clear hb
  go_wp2_with fail
  refine (lawRecord_any nm st _ _ CB CG _ (by rw [hR.out.2.1]; exact RC.out) RD.out FC.out FD.out HN.out.2.2.2.1 HN.out.2.2.2.2).mono ?_
  rintro e z10 ⟨u1, u2, rfl, hu1, hu2, -, -, hb⟩
  have U1 := hd hu1
  have U2 := hd hu2
  clear hu1 hu2
  replace HQ := hd ((hb.block _ (blk_lt HQ.out)).trans HQ.out)
  replace HC := hd ((hb.block _ (blk_lt HC.out)).trans HC.out)
  replace HB := hd (HB.out.trans (hb.mono HB.out.size))
  replace RL := hd ((RL.out.below hb (Nat.le_refl _)).mono hb.size)
  replace RG := hd ((RG.out.below hb (Nat.le_refl _)).mono hb.size)
  replace RU := hd ((RU.out.below hb (Nat.le_refl _)).mono hb.size)
  replace RX := hd ((RX.out.below hb (Nat.le_refl _)).mono hb.size)
  replace RC := hd ((RC.out.below hb (Nat.le_refl _)).mono hb.size)
  replace RD := hd ((RD.out.below hb (Nat.le_refl _)).mono hb.size)
  clear hb
  go_wp2_with fail
  refine (lawRules_any _ l _ RU.out HN.out.2.2.1).mono ?_
  rintro e z11 ⟨u3, rfl, hu3, hb⟩
  have U3 := hd (rd_of_own hu3)
  clear hu3
  replace HQ := hd ((hb.block _ (blk_lt HQ.out)).trans HQ.out)
  replace HC := hd ((hb.block _ (blk_lt HC.out)).trans HC.out)
  replace HB := hd (HB.out.trans (hb.mono HB.out.size))
  replace RL := hd ((RL.out.below hb (Nat.le_refl _)).mono hb.size)
  replace RG := hd ((RG.out.below hb (Nat.le_refl _)).mono hb.size)
  replace RU := hd ((RU.out.below hb (Nat.le_refl _)).mono hb.size)
  replace RX := hd ((RX.out.below hb (Nat.le_refl _)).mono hb.size)
  replace RC := hd ((RC.out.below hb (Nat.le_refl _)).mono hb.size)
  replace RD := hd ((RD.out.below hb (Nat.le_refl _)).mono hb.size)
  replace U1 := hd ((U1.out.below hb (Nat.le_refl _)).mono hb.size)
  replace U2 := hd ((U2.out.below hb (Nat.le_refl _)).mono hb.size)
  clear hb
  go_wp2_with fail
  refine (GC2.out _ _ _ _ U1.out U2.out U3.out).mono ?_
  rintro e z12 ⟨la, ga, rfl, hl, hg, -, -, hb⟩
  obtain ⟨AE, cE, rfl, -⟩ := id hl
  obtain ⟨AF, cF, rfl, -⟩ := id hg
  rw [hR.out.2.1] at hl ⊢
  have RA := hd hl
  have RB := hd hg
  clear hl hg U1 U2 U3
  replace HQ := hd ((hb.block _ (blk_lt HQ.out)).trans HQ.out)
  replace HC := hd ((hb.block _ (blk_lt HC.out)).trans HC.out)
  replace HB := hd (HB.out.trans (hb.mono HB.out.size))
  replace RL := hd ((RL.out.below hb (Nat.le_refl _)).mono hb.size)
  replace RG := hd ((RG.out.below hb (Nat.le_refl _)).mono hb.size)
  replace RU := hd ((RU.out.below hb (Nat.le_refl _)).mono hb.size)
  replace RX := hd ((RX.out.below hb (Nat.le_refl _)).mono hb.size)
  replace RC := hd ((RC.out.below hb (Nat.le_refl _)).mono hb.size)
  replace RD := hd ((RD.out.below hb (Nat.le_refl _)).mono hb.size)
  clear hb
  have hb := (Below.refl z12.heap.size z12).alloc (Nat.le_refl _) (Obj.cells #[.string nm, .int .i64 st, .slice AE bs.length cE, .slice AF CG.length cF] 35)
  have HA9 := hd (blk_new z12 #[.string nm, .int .i64 st, .slice AE bs.length cE, .slice AF CG.length cF] 35)
  replace HQ := hd ((hb.block _ (blk_lt HQ.out)).trans HQ.out)
  replace HC := hd ((hb.block _ (blk_lt HC.out)).trans HC.out)
  replace HB := hd (HB.out.trans (hb.mono HB.out.size))
  replace RL := hd ((RL.out.below hb (Nat.le_refl _)).mono hb.size)
  replace RG := hd ((RG.out.below hb (Nat.le_refl _)).mono hb.size)
  replace RU := hd ((RU.out.below hb (Nat.le_refl _)).mono hb.size)
  replace RX := hd ((RX.out.below hb (Nat.le_refl _)).mono hb.size)
  replace RC := hd ((RC.out.below hb (Nat.le_refl _)).mono hb.size)
  replace RD := hd ((RD.out.below hb (Nat.le_refl _)).mono hb.size)
  replace RA := hd ((RA.out.below hb (Nat.le_refl _)).mono hb.size)
  replace RB := hd ((RB.out.below hb (Nat.le_refl _)).mono hb.size)
  clear hb
  have hZ := box4k HC.out
  obtain ⟨d0, d1, d2, d3, df0, df1, df2, df3⟩ := hZ
  go_wp2_with fail
  generalize z12.alloc (Obj.cells #[.string nm, .int .i64 st, .slice AE bs.length cE, .slice AF CG.length cF] 35) = W6 at *
  generalize z12.heap.size = D at *
  clear d0 d1 d2 d3 df0 df1 df2 df3
  refine (own_rec nm st AC AD bs.length cC CG.length cD _).mono ?_
  rintro e z13 ⟨rfl, hb⟩
  replace HQ := hd ((hb.block _ (blk_lt HQ.out)).trans HQ.out)
  replace HC := hd ((hb.block _ (blk_lt HC.out)).trans HC.out)
  replace HA9 := hd ((hb.block _ (blk_lt HA9.out)).trans HA9.out)
  replace HB := hd (HB.out.trans (hb.mono HB.out.size))
  replace RL := hd ((RL.out.below hb (Nat.le_refl _)).mono hb.size)
  replace RG := hd ((RG.out.below hb (Nat.le_refl _)).mono hb.size)
  replace RU := hd ((RU.out.below hb (Nat.le_refl _)).mono hb.size)
  replace RX := hd ((RX.out.below hb (Nat.le_refl _)).mono hb.size)
  replace RC := hd ((RC.out.below hb (Nat.le_refl _)).mono hb.size)
  replace RD := hd ((RD.out.below hb (Nat.le_refl _)).mono hb.size)
  replace RA := hd ((RA.out.below hb (Nat.le_refl _)).mono hb.size)
  replace RB := hd ((RB.out.below hb (Nat.le_refl _)).mono hb.size)
  clear hb
  go_wp2_with fail
  refine (lawRecord_any nm st _ _ CB CG _ (by rw [hR.out.2.1]; exact RC.out) RD.out FC.out FD.out HN.out.2.2.2.1 HN.out.2.2.2.2).mono ?_
  rintro e z14 ⟨u1, u2, rfl, hu1, hu2, -, -, hb⟩
  have U1 := hd hu1
  have U2 := hd hu2
  clear hu1 hu2
  replace HQ := hd ((hb.block _ (blk_lt HQ.out)).trans HQ.out)
  replace HC := hd ((hb.block _ (blk_lt HC.out)).trans HC.out)
  replace HA9 := hd ((hb.block _ (blk_lt HA9.out)).trans HA9.out)
  replace HB := hd (HB.out.trans (hb.mono HB.out.size))
  replace RL := hd ((RL.out.below hb (Nat.le_refl _)).mono hb.size)
  replace RG := hd ((RG.out.below hb (Nat.le_refl _)).mono hb.size)
  replace RU := hd ((RU.out.below hb (Nat.le_refl _)).mono hb.size)
  replace RX := hd ((RX.out.below hb (Nat.le_refl _)).mono hb.size)
  replace RC := hd ((RC.out.below hb (Nat.le_refl _)).mono hb.size)
  replace RD := hd ((RD.out.below hb (Nat.le_refl _)).mono hb.size)
  replace RA := hd ((RA.out.below hb (Nat.le_refl _)).mono hb.size)
  replace RB := hd ((RB.out.below hb (Nat.le_refl _)).mono hb.size)
  clear hb
  go_wp2_with fail
  refine (lawRules_any _ l _ RU.out HN.out.2.2.1).mono ?_
  rintro e z15 ⟨u3, rfl, hu3, hb⟩
  have U3 := hd (rd_of_own hu3)
  clear hu3
  replace HQ := hd ((hb.block _ (blk_lt HQ.out)).trans HQ.out)
  replace HC := hd ((hb.block _ (blk_lt HC.out)).trans HC.out)
  replace HA9 := hd ((hb.block _ (blk_lt HA9.out)).trans HA9.out)
  replace HB := hd (HB.out.trans (hb.mono HB.out.size))
  replace RL := hd ((RL.out.below hb (Nat.le_refl _)).mono hb.size)
  replace RG := hd ((RG.out.below hb (Nat.le_refl _)).mono hb.size)
  replace RU := hd ((RU.out.below hb (Nat.le_refl _)).mono hb.size)
  replace RX := hd ((RX.out.below hb (Nat.le_refl _)).mono hb.size)
  replace RC := hd ((RC.out.below hb (Nat.le_refl _)).mono hb.size)
  replace RD := hd ((RD.out.below hb (Nat.le_refl _)).mono hb.size)
  replace RA := hd ((RA.out.below hb (Nat.le_refl _)).mono hb.size)
  replace RB := hd ((RB.out.below hb (Nat.le_refl _)).mono hb.size)
  replace U1 := hd ((U1.out.below hb (Nat.le_refl _)).mono hb.size)
  replace U2 := hd ((U2.out.below hb (Nat.le_refl _)).mono hb.size)
  clear hb
  go_wp2_with fail
  refine (GH2.out _ _ _ _ U1.out U2.out U3.out).mono ?_
  rintro e z16 ⟨vn, rfl, hv, hb⟩
  obtain ⟨AN, cN, rfl, -⟩ := id hv
  rw [hR.out.2.2] at hv ⊢
  have RN := hd hv
  clear hv U1 U2 U3
  replace HQ := hd ((hb.block _ (blk_lt HQ.out)).trans HQ.out)
  replace HC := hd ((hb.block _ (blk_lt HC.out)).trans HC.out)
  replace HA9 := hd ((hb.block _ (blk_lt HA9.out)).trans HA9.out)
  replace HB := hd (HB.out.trans (hb.mono HB.out.size))
  replace RL := hd ((RL.out.below hb (Nat.le_refl _)).mono hb.size)
  replace RG := hd ((RG.out.below hb (Nat.le_refl _)).mono hb.size)
  replace RU := hd ((RU.out.below hb (Nat.le_refl _)).mono hb.size)
  replace RX := hd ((RX.out.below hb (Nat.le_refl _)).mono hb.size)
  replace RC := hd ((RC.out.below hb (Nat.le_refl _)).mono hb.size)
  replace RD := hd ((RD.out.below hb (Nat.le_refl _)).mono hb.size)
  replace RA := hd ((RA.out.below hb (Nat.le_refl _)).mono hb.size)
  replace RB := hd ((RB.out.below hb (Nat.le_refl _)).mono hb.size)
  clear hb
  skip
  go_wp2_with fail
  have Fk0 : ∀ p : Bw z16, p.out.cell? ⟨w.heap.size, 0, none⟩ = some (.string nm) := fun p => p.cell (blk_lt HQ.out) (blk_cell HQ.out 0)
  have Fk1 : ∀ p : Bw z16, p.out.cell? ⟨w.heap.size, 1, none⟩ = some (.int .i64 st) := fun p => p.cell (blk_lt HQ.out) (blk_cell HQ.out 1)
  have Fk2 : ∀ p : Bw z16, p.out.cell? ⟨w.heap.size, 2, none⟩ = some (.slice A bs.length c) := fun p => p.cell (blk_lt HQ.out) (blk_cell HQ.out 2)
  have Fk3 : ∀ p : Bw z16, p.out.cell? ⟨w.heap.size, 3, none⟩ = some (.slice A2 gs.length c2) := fun p => p.cell (blk_lt HQ.out) (blk_cell HQ.out 3)
  have Fd0 : ∀ p : Bw z16, p.out.cell? ⟨C, 0, none⟩ = some (.string nm) := fun p => p.cell (blk_lt HC.out) (blk_cell HC.out 0)
  have Fd1 : ∀ p : Bw z16, p.out.cell? ⟨C, 1, none⟩ = some (.int .i64 st) := fun p => p.cell (blk_lt HC.out) (blk_cell HC.out 1)
  have Fd2 : ∀ p : Bw z16, p.out.cell? ⟨C, 2, none⟩ = some (.slice AC bs.length cC) := fun p => p.cell (blk_lt HC.out) (blk_cell HC.out 2)
  have Fd3 : ∀ p : Bw z16, p.out.cell? ⟨C, 3, none⟩ = some (.slice AD CG.length cD) := fun p => p.cell (blk_lt HC.out) (blk_cell HC.out 3)
  have Fg0 : ∀ p : Bw z16, p.out.cell? ⟨D, 0, none⟩ = some (.string nm) := fun p => p.cell (blk_lt HA9.out) (blk_cell HA9.out 0)
  have Fg1 : ∀ p : Bw z16, p.out.cell? ⟨D, 1, none⟩ = some (.int .i64 st) := fun p => p.cell (blk_lt HA9.out) (blk_cell HA9.out 1)
  have Fg2 : ∀ p : Bw z16, p.out.cell? ⟨D, 2, none⟩ = some (.slice AE bs.length cE) := fun p => p.cell (blk_lt HA9.out) (blk_cell HA9.out 2)
  have Fg3 : ∀ p : Bw z16, p.out.cell? ⟨D, 3, none⟩ = some (.slice AF CG.length cF) := fun p => p.cell (blk_lt HA9.out) (blk_cell HA9.out 3)
  have HCK := hd (fun (p : Bw z16) => CC.out p.out _ _ (by rw [hR.out.2.1]; exact (RC.out.below p.below (Nat.le_refl _)).mono p.below.size) ((RD.out.below p.below (Nat.le_refl _)).mono p.below.size))
  have HSR := hd (fun (p : Bw z16) => sameRec_yes nm st (.slice AE bs.length cE) (.slice AF CG.length cF) (.slice AC bs.length cC) (.slice AD CG.length cD) CB CB CG CG p.out (by rw [hR.out.2.1]; exact (RA.out.below p.below (Nat.le_refl _)).mono p.below.size) ((RB.out.below p.below (Nat.le_refl _)).mono p.below.size) (by rw [hR.out.2.1]; exact (RC.out.below p.below (Nat.le_refl _)).mono p.below.size) ((RD.out.below p.below (Nat.le_refl _)).mono p.below.size) HLC.out (sameF_yes (fun x y : Int × Int => x == y) (0, 0) CG CG rfl (fun j _ => by simp)))
  refine wp_region_bw (by kernel_rfl) (by kernel_rfl) ?_
  repeat (first | go_big_quiet_step (first | (go_at_call 14; exact Bw.call _ (own_rec _ _ _ _ _ _ _ _ _)) | (go_at_call 15; exact Bw.call _ (HSR.out _)) | (go_at_call 8; exact Bw.call _ (HCK.out _))))
  refine wpQuiet_nil ?_
  rintro ⟨W7, hb⟩
  change Exit.then _ _ _ _ W7
  clear Fk0 Fk1 Fk2 Fk3 Fd0 Fd1 Fd2 Fd3 Fg0 Fg1 Fg2 Fg3 HCK HSR
  replace HQ := hd ((hb.block _ (blk_lt HQ.out)).trans HQ.out)
  replace HC := hd ((hb.block _ (blk_lt HC.out)).trans HC.out)
  replace HA9 := hd ((hb.block _ (blk_lt HA9.out)).trans HA9.out)
  replace HB := hd (HB.out.trans (hb.mono HB.out.size))
  replace RL := hd ((RL.out.below hb (Nat.le_refl _)).mono hb.size)
  replace RG := hd ((RG.out.below hb (Nat.le_refl _)).mono hb.size)
  replace RU := hd ((RU.out.below hb (Nat.le_refl _)).mono hb.size)
  replace RX := hd ((RX.out.below hb (Nat.le_refl _)).mono hb.size)
  replace RC := hd ((RC.out.below hb (Nat.le_refl _)).mono hb.size)
  replace RD := hd ((RD.out.below hb (Nat.le_refl _)).mono hb.size)
  replace RA := hd ((RA.out.below hb (Nat.le_refl _)).mono hb.size)
  replace RB := hd ((RB.out.below hb (Nat.le_refl _)).mono hb.size)
  replace RN := hd ((RN.out.below hb (Nat.le_refl _)).mono hb.size)
  clear hb
  have hZ := box4k HQ.out
  obtain ⟨k0, k1, k2, k3, kf0, kf1, kf2, kf3⟩ := hZ
  have hZ := box4k HC.out
  obtain ⟨d0, d1, d2, d3, df0, df1, df2, df3⟩ := hZ
  go_wp2
  refine keeps_l1 nm st A A2 A3 AC AD AX AN c c2 c3 cC cD cX cN bs.length w.heap.size C bs CB gs CG l R Z W7 _ _ HQ HC RL RG RU RC RD RX RN (hd ⟨HN.out.1, HN.out.2.2.1, rfl, hR.out.2.1, hR.out.1, hR.out.2.2⟩) HV HP HK (hd (Below.refl _ _)) ?_
  clear k0 k1 k2 k3 kf0 kf1 kf2 kf3 d0 d1 d2 d3 df0 df1 df2 df3
  intro u4 u13 u14 u15 u16 u17 u18 u19 u20 u21 u22 u140 u141 u142 u143 u144 u145 u146 u147 u148 u149 u150 u151 u152 u153 u154 u155 u156 u157 u158 u159 u160 u161 u162 u163 u164 u165 u166 u167 u168 u169 u170 u171 u172 u173 u174 u175 u176 u177 u178 u179 u180 u181 u182 u183 u184 u185 u186 u187 u188 u189 u190 u191 u192 u193 u194 u195 u196 u197 u198 u199 u200 u201 u202 u203 u204 u205 u206 u207 u208 u209 u210 u211 u212 u213 u214 u215 u216 u217 u218 u219 u220 u221 u222 u223 u224 u225 u226 u227 u228 u229 u230 u231 u232 u233 u234 u235 u236 u237 u238 u239 u240 u241 u242 u243 u244 u245 u246 u247 u248 u249 u250 u251 u252 u253 u254 u255 u256 u257 u258 u259 u260 u261 u262 u263 u264 u265 u266 u267 u268 u269 u270 u271 u272 u273 u274 u275 u276 u277 u278 u279 u280 u281 u282 u283 u284 u285 u286 u287 u288 u289 u290 u291 u292 u293 u294 u295 u296 u297 u298 u299 u300 u301 u302 u303 u304 u305 u306 u307 u308 u309 u310 u311 u312 u313 w8 hb
  replace HQ := hd ((hb.block _ (blk_lt HQ.out)).trans HQ.out)
  replace HC := hd ((hb.block _ (blk_lt HC.out)).trans HC.out)
  replace HA9 := hd ((hb.block _ (blk_lt HA9.out)).trans HA9.out)
  replace HB := hd (HB.out.trans (hb.mono HB.out.size))
  replace RL := hd ((RL.out.below hb (Nat.le_refl _)).mono hb.size)
  replace RG := hd ((RG.out.below hb (Nat.le_refl _)).mono hb.size)
  replace RU := hd ((RU.out.below hb (Nat.le_refl _)).mono hb.size)
  replace RX := hd ((RX.out.below hb (Nat.le_refl _)).mono hb.size)
  replace RC := hd ((RC.out.below hb (Nat.le_refl _)).mono hb.size)
  replace RD := hd ((RD.out.below hb (Nat.le_refl _)).mono hb.size)
  replace RA := hd ((RA.out.below hb (Nat.le_refl _)).mono hb.size)
  replace RB := hd ((RB.out.below hb (Nat.le_refl _)).mono hb.size)
  replace RN := hd ((RN.out.below hb (Nat.le_refl _)).mono hb.size)
  clear hb
  by_cases hl0 : l.length = 0
  · have he := HE.out (List.length_eq_zero_iff.1 hl0)
    have hl1 : l = [] := List.length_eq_zero_iff.1 hl0
    have Fk0 : ∀ p : Bw w8, p.out.cell? ⟨w.heap.size, 0, none⟩ = some (.string nm) := fun p => p.cell (blk_lt HQ.out) (blk_cell HQ.out 0)
    have Fk1 : ∀ p : Bw w8, p.out.cell? ⟨w.heap.size, 1, none⟩ = some (.int .i64 st) := fun p => p.cell (blk_lt HQ.out) (blk_cell HQ.out 1)
    have Fk2 : ∀ p : Bw w8, p.out.cell? ⟨w.heap.size, 2, none⟩ = some (.slice A bs.length c) := fun p => p.cell (blk_lt HQ.out) (blk_cell HQ.out 2)
    have Fk3 : ∀ p : Bw w8, p.out.cell? ⟨w.heap.size, 3, none⟩ = some (.slice A2 gs.length c2) := fun p => p.cell (blk_lt HQ.out) (blk_cell HQ.out 3)
    have Fd0 : ∀ p : Bw w8, p.out.cell? ⟨C, 0, none⟩ = some (.string nm) := fun p => p.cell (blk_lt HC.out) (blk_cell HC.out 0)
    have Fd1 : ∀ p : Bw w8, p.out.cell? ⟨C, 1, none⟩ = some (.int .i64 st) := fun p => p.cell (blk_lt HC.out) (blk_cell HC.out 1)
    have Fd2 : ∀ p : Bw w8, p.out.cell? ⟨C, 2, none⟩ = some (.slice AC bs.length cC) := fun p => p.cell (blk_lt HC.out) (blk_cell HC.out 2)
    have Fd3 : ∀ p : Bw w8, p.out.cell? ⟨C, 3, none⟩ = some (.slice AD CG.length cD) := fun p => p.cell (blk_lt HC.out) (blk_cell HC.out 3)
    have HSR := hd (fun (p : Bw w8) => sameRec_yes nm st (.slice AC bs.length cC) (.slice AD CG.length cD) (.slice A bs.length c) (.slice A2 gs.length c2) CB bs CG gs p.out (by rw [hR.out.2.1]; exact (RC.out.below p.below (Nat.le_refl _)).mono p.below.size) ((RD.out.below p.below (Nat.le_refl _)).mono p.below.size) ((RL.out.below p.below (Nat.le_refl _)).mono p.below.size) ((RG.out.below p.below (Nat.le_refl _)).mono p.below.size) he.1 he.2)
    have HL0 := hd hl1
    clear he hl1
    have hli : (l.length : Int) = 0 := by omega
    go_wp2_with fail
    refine wp_region_bw (by kernel_rfl) (by kernel_rfl) ?_
    repeat (first | go_big_quiet_step (first | (go_at_call 14; exact Bw.call _ (own_rec _ _ _ _ _ _ _ _ _)) | (go_at_call 15; exact Bw.call _ (HSR.out _))))
    refine wpQuiet_nil ?_
    rintro ⟨w9, hb⟩
    change Exit.then _ _ _ _ w9
    have HB2 := hd (HB.out.trans (hb.mono HB.out.size))
    clear Fk0 Fk1 Fk2 Fk3 Fd0 Fd1 Fd2 Fd3 HSR hb
    go_wp2
    go_returns
    exact ⟨rfl, HB2.out⟩
  · have hl1 : ¬ l = [] := fun e => hl0 (by rw [e]; rfl)
    have hm := HM.out hl1
    have hw : IntKind.i64.wrap ((l.length : Int) - 1) = ((m : Nat) : Int) := by have := HN.out.2.2.1; rw [hm]; push_cast; rw [IntWalk.i64_in _ (by omega)]; omega
    have hl3 : ¬ (l.length : Int) = 0 := by omega
    have hl4 : l.length ≤ 100000 := HN.out.2.2.1
    have hcu : l.length ≤ c3 := by obtain ⟨A', c', e', h1, -⟩ := RU.out; cases e'; exact h1
    have hcm : c3 ≤ maxLen := by obtain ⟨A', c', e', -, h1, -⟩ := RU.out; cases e'; exact h1
    unfold maxLen at hcm
    have hmc : (m : Int) ≤ (c3 : Int) := by omega
    have HMM := hd hm
    have hm0 : (0 : Int) ≤ (m : Int) := by omega
    clear hm hcu hcm hl0
    obtain ⟨rb, ro, hA3, -, -⟩ : ∃ b o, A3 = some ⟨b, o, none⟩ ∧ b < w8.heap.size ∧ True := by obtain ⟨A', c', e', -, -, h1⟩ := RU.out; cases e'; obtain ⟨b, o, rfl, h2, -⟩ := h1 (by omega); exact ⟨b, o, rfl, h2, trivial⟩
    subst hA3
    have hZ := box4k HQ.out
    obtain ⟨k0, k1, k2, k3, kf0, kf1, kf2, kf3⟩ := hZ
    go_wp2_with fail
    go_region_held3 (fun x => x.cell? ⟨w.heap.size, 0, none⟩ = some (.string nm) ∧ x.cell? ⟨w.heap.size, 1, none⟩ = some (.int .i64 st) ∧ x.cell? ⟨w.heap.size, 2, none⟩ = some (.slice A bs.length c) ∧ x.cell? ⟨w.heap.size, 3, none⟩ = some (.slice A2 gs.length c2)) (go_keep) (first | (go_at_call 11; have hX0 : Below w8.heap.size w8 w8.drew := (Below.refl w8.heap.size w8).drew; refine (lawRecord_any nm st _ _ bs gs _ ((RL.out.below hX0 (Nat.le_refl _)).mono hX0.size) ((RG.out.below hX0 (Nat.le_refl _)).mono hX0.size) FL.out FG.out HN.out.1 HN.out.2.1).mono ?_; rintro e x1 ⟨u1, u2, rfl, hu1, hu2, -, -, hb⟩; have HU1 := hd hu1; have HU2 := hd hu2; have hX : Below w8.heap.size w8 x1 := hX0.trans (hb.mono hX0.size); have hq := (hX.block _ (blk_lt HQ.out)).trans HQ.out; have q0 := blk_cell hq 0; have q1 := blk_cell hq 1; have q2 := blk_cell hq 2; have q3 := blk_cell hq 3; simp at q0 q1 q2 q3; have HX1 := hd hX; clear hu1 hu2 hX hX0 hb hq k0 k1 k2 k3 kf0 kf1 kf2 kf3) | (go_at_call 12; have hr : (l.take m).length = m := (by rw [List.length_take, HMM.out]; omega); refine (lawRules_any _ (l.take m) _ (by rw [hr]; exact rd_pre ((RU.out.below HX1.out (Nat.le_refl _)).mono HX1.out.size) rfl (by have := HMM.out; omega)) (by rw [hr]; have := HMM.out; omega)).mono ?_; rintro e x2 ⟨u3, rfl, hu3, hb⟩; have HU3 := hd (rd_of_own hu3); have hX : Below w8.heap.size w8 x2 := HX1.out.trans (hb.mono HX1.out.size); have HX2 := hd hX; have HV1 := hd ((HU1.out.below hb (Nat.le_refl _)).mono hb.size); have HV2 := hd ((HU2.out.below hb (Nat.le_refl _)).mono hb.size); have hq := (hX.block _ (blk_lt HQ.out)).trans HQ.out; have r0 := blk_cell hq 0; have r1 := blk_cell hq 1; have r2 := blk_cell hq 2; have r3 := blk_cell hq 3; simp at r0 r1 r2 r3; clear hu3 hX hb hq HU1 HU2 hr q0 q1 q2 q3) | (go_at_call 10; have hr : (l.take m).length = m := (by rw [List.length_take, HMM.out]; omega); refine (GF.out _ _ _ _ HV1.out HV2.out (by have h9 := HU3.out; rw [hr] at h9; exact h9)).mono ?_; rintro e x3 ⟨vf, rfl, hv, hb⟩; obtain ⟨AF2, cF2, hvf, -⟩ := id hv; subst hvf; rw [hR'.out] at hv ⊢; have RF := hd hv; have hX : Below w8.heap.size w8 x3 := HX2.out.trans (hb.mono HX2.out.size); have HX3 := hd hX; have hq := (hX.block _ (blk_lt HQ.out)).trans HQ.out; have s0 := blk_cell hq 0; have s1 := blk_cell hq 1; have s2 := blk_cell hq 2; have s3 := blk_cell hq 3; simp at s0 s1 s2 s3; clear hv hX hb hq HV1 HV2 HU3 hr r0 r1 r2 r3))
    go_wp2_with fail
    refine keeps_l4 _ AX AF2 c3 cX cF2 bs.length l R R' x3 _ _ (hd ((RX.out.below HX3.out (Nat.le_refl _)).mono HX3.out.size)) RF (hd ⟨HN.out.1, HN.out.2.2.1, hR.out.1, hR'.out⟩) HF (hd (Below.refl _ _)) ?_
    intro u4 u25 u26 u344 u345 u346 u347 u348 u349 u350 u351 u352 u353 u354 u355 u356 u357 u358 u359 u360 u361 u362 u363 u364 u365 u366 u367 u368 u369 u370 u371 u372 u373 u374 u375 u376 u377 u378 u379 w9 hb9
    have HB9 := hd (HB.out.trans ((HX3.out.trans (hb9.mono HX3.out.size)).mono HB.out.size))
    clear hb9 s0 s1 s2 s3
    go_wp2
    go_returns
    exact ⟨rfl, HB9.out⟩
end Go.Proofs.YtfmmmpmdnfpofaaGreatDoor
