/-
  The walk of GaugeCleans, by which of its errors are 0.
-/
import Derived.Test.YtcekfcefdmejeaaGreatDoorProg
import Derived.Test.YtcekfcefdmejeaaGreatDoorE7
import Derived.Test.YtcekfcefdmejeaaGreatDoorE5
import Derived.Test.YtcekfcefdmejeaaGreatDoorQ4
import Derived.Test.YtcekfcefdmejeaaGreatDoorQ5
import Derived.Test.YtcekfcefdmejeaaGreatDoorQ6
import Derived.Test.YtcekfcefdmejeaaGreatDoorQ8
import Derived.Test.YtcekfcefdmejeaaGreatDoorAw
import Derived.Deep.RegionHeld3
namespace Go.Proofs.YtcekfcefdmejeaaGreatDoor
open Go.RowKit
attribute [local go_sem] Oper.semAt_some

/-- Integers in a slice, a record, or a record and spans; and an error. -/
def GotR (l : List Int) (x : Int) (w : World) (e : Ending) (w' : World) : Prop :=
  ∃ v, e = .returned (.tuple #[v, .int .i64 x]) ∧ Rd w' w'.heap.size v l.length (l.map (Value.int .i64)) ∧ Below w.heap.size w w'
def GotC (nm : ByteArray) (st : Int) (bs : List Nat) (gs : List (Int × Int)) (w : World) (e : Ending) (w' : World) : Prop :=
  ∃ lv gv, e = .returned (.tuple #[.agg #[.string nm, .int .i64 st, lv, gv], .int .i64 0]) ∧ Rd w' w'.heap.size lv bs.length (flc bs) ∧ Rd w' w'.heap.size gv gs.length (spc gs) ∧ Below w.heap.size w w'
def GotF (nm : ByteArray) (st : Int) (bs : List Nat) (gs fs : List (Int × Int)) (w : World) (e : Ending) (w' : World) : Prop :=
  ∃ lv gv sv, e = .returned (.tuple #[.agg #[.string nm, .int .i64 st, lv, gv], sv, .int .i64 0]) ∧ Rd w' w'.heap.size lv bs.length (flc bs) ∧ Rd w' w'.heap.size gv gs.length (spc gs) ∧ Rd w' w'.heap.size sv fs.length (spc fs) ∧ Below w.heap.size w w'
def OwnsRF (base : Nat) (nm : ByteArray) (st : Int) (bs : List Nat) (gs fs : List (Int × Int)) (w : World) (e : Ending) (w' : World) : Prop :=
  ∃ lv gv sv, e = .returned (.tuple #[.agg #[.string nm, .int .i64 st, lv, gv], sv]) ∧ w'.ownsRow base 62 1 lv bs.length (flc bs) ∧ w'.ownsRow base 82 2 gv gs.length (spc gs) ∧ w'.ownsRow base 82 2 sv fs.length (spc fs) ∧ Below base w w'
theorem sm_spans (l : List (Int × Int)) : sameF (fun x y : Int × Int => x == y) (0, 0) l l = true := sameF_yes (fun x y : Int × Int => x == y) (0, 0) l l rfl (fun j _ => by simp)

set_option maxRecDepth 1000000 in
set_option maxHeartbeats 16000000 in
theorem cleans_tt (HA : Hid Awake) (nm : ByteArray) (st n : Int) (A A2 A3 : Option Addr) (c c2 c3 : Nat) (bs : List Nat) (gs : List (Int × Int)) (l : List Ru) (X : List Int) (CB : List Nat) (CG : List (Int × Int)) (FB : List Nat) (FG FF : List (Int × Int)) (E EU x1 x3 : Int) (w : World)
    (HL : Hid (Rd w w.heap.size (.slice A bs.length c) bs.length (flc bs))) (HG : Hid (Rd w w.heap.size (.slice A2 gs.length c2) gs.length (spc gs))) (HU : Hid (Rd w w.heap.size (.slice A3 l.length c3) l.length (ruc l))) (FL : Hid (Full (.slice A bs.length c))) (FG' : Hid (Full (.slice A2 gs.length c2)))
    (S1 : Hid (shortR nm.size bs.length gs.length = true)) (S2 : Hid (shortRu l = true)) (HN : Hid (bs.length ≤ 100000 ∧ gs.length ≤ 100000 ∧ l.length ≤ 100000))
    (CR : Hid (∀ (W : World) (lv gv : Value), Rd W W.heap.size lv bs.length (flc bs) → Rd W W.heap.size gv gs.length (spc gs) → Calls Tryz.prog 15 #[.agg #[.string nm, .int .i64 st, lv, gv]] W fun e w' => e = .returned (.int .i64 E) ∧ Below W.heap.size W w'))
    (CU : Hid (∀ (W : World) (rv : Value), Rd W W.heap.size rv l.length (ruc l) → Calls Tryz.prog 17 #[rv] W fun e w' => e = .returned (.int .i64 EU) ∧ Below W.heap.size W w'))
    (H1 : Hid (fst0 [E, EU] = x1)) (h1 : (x1 == 0) = true) (H3 : Hid (fst0 [E, rng n 0 4096] = x3)) (h3 : (x3 == 0) = true)
    (GH : Hid (∀ (W : World) (lv gv rv : Value), Rd W W.heap.size lv bs.length (flc bs) → Rd W W.heap.size gv gs.length (spc gs) → Rd W W.heap.size rv l.length (ruc l) → Calls Tryz.prog 10 #[.agg #[.string nm, .int .i64 st, lv, gv], rv] W (GotR X 0 W)))
    (GC : Hid (∀ (W : World) (lv gv rv : Value), Rd W W.heap.size lv bs.length (flc bs) → Rd W W.heap.size gv gs.length (spc gs) → Rd W W.heap.size rv l.length (ruc l) → Calls Tryz.prog 13 #[.agg #[.string nm, .int .i64 st, lv, gv], rv] W (GotC nm st CB CG W)))
    (RH : Hid (∀ (W : World) (lv gv rv : Value), Rd W W.heap.size lv bs.length (flc bs) → Rd W W.heap.size gv gs.length (spc gs) → Rd W W.heap.size rv l.length (ruc l) → Calls Tryz.prog 19 #[.agg #[.string nm, .int .i64 st, lv, gv], rv] W (OwnsIn W.heap.size X W)))
    (RC : Hid (∀ (W : World) (lv gv rv : Value), Rd W W.heap.size lv bs.length (flc bs) → Rd W W.heap.size gv gs.length (spc gs) → Rd W W.heap.size rv l.length (ruc l) → Calls Tryz.prog 20 #[.agg #[.string nm, .int .i64 st, lv, gv], rv] W (OwnsRec W.heap.size nm st CB CG W)))
    (HLC : Hid (sameF feqL 0 CB CB = true))
    (GF : Hid (∀ (W : World) (lv gv : Value), Rd W W.heap.size lv bs.length (flc bs) → Rd W W.heap.size gv gs.length (spc gs) → Calls Tryz.prog 14 #[.agg #[.string nm, .int .i64 st, lv, gv], .int .i64 n] W (GotF nm st FB FG FF W)))
    (RF : Hid (∀ (W : World), Rd W W.heap.size (.slice A bs.length c) bs.length (flc bs) → Rd W W.heap.size (.slice A2 gs.length c2) gs.length (spc gs) → Calls Tryz.prog 21 #[.agg #[.string nm, .int .i64 st, .slice A bs.length c, .slice A2 gs.length c2], .int .i64 n] W (OwnsRF W.heap.size nm st FB FG FF W)))
    (HLF : Hid (sameF feqL 0 FB FB = true)) :
    Calls Tryz.prog 3 #[.agg #[.string nm, .int .i64 st, .slice A bs.length c, .slice A2 gs.length c2], .slice A3 l.length c3, .int .i64 n] w fun e w' => e = .returned (.bool true) ∧ Below w.heap.size w w' := by
  obtain rfl : x1 = 0 := by simpa using h1
  obtain rfl : x3 = 0 := by simpa using h3
  have hc4 : bs.length ≤ c ∧ c ≤ 9223372036854775807 := by obtain ⟨A', c', e, h1, h2, -⟩ := HL.out; cases e; unfold maxLen at h2; omega
  obtain ⟨hc5, hc6⟩ := hc4
  have hb1 := (Below.refl w.heap.size w).alloc (Nat.le_refl _) (Obj.cells #[.string nm, .int .i64 st, .slice A bs.length c, .slice A2 gs.length c2] 25)
  have HQ := hd (blk_new w #[.string nm, .int .i64 st, .slice A bs.length c, .slice A2 gs.length c2] 25)
  have HB := hd hb1
  have RL := hd ((HL.out.below hb1 (Nat.le_refl _)).mono hb1.size)
  have RG := hd ((HG.out.below hb1 (Nat.le_refl _)).mono hb1.size)
  have RU := hd ((HU.out.below hb1 (Nat.le_refl _)).mono hb1.size)
  clear hb1
  go_enter Tryz.func3, Tryz.ntmps3
  go_wp2_with fail
  generalize w.alloc (Obj.cells #[.string nm, .int .i64 st, .slice A bs.length c, .slice A2 gs.length c2] 25) = W1 at *
  refine (HA.out _).mono ?_
  rintro e z0 ⟨rfl, hb⟩
  replace HQ := hd ((hb.block _ (blk_lt HQ.out)).trans HQ.out)
  replace HB := hd (HB.out.trans (hb.mono HB.out.size))
  replace RL := hd ((RL.out.below hb (Nat.le_refl _)).mono hb.size)
  replace RG := hd ((RG.out.below hb (Nat.le_refl _)).mono hb.size)
  replace RU := hd ((RU.out.below hb (Nat.le_refl _)).mono hb.size)
  clear hb
  have k0 := blk_cell HQ.out 0
  have k1 := blk_cell HQ.out 1
  have k2 := blk_cell HQ.out 2
  have k3 := blk_cell HQ.out 3
  simp at k0 k1 k2 k3
  go_wp2_with fail
  refine (short_any nm st A A2 bs.length c gs.length c2 _).mono ?_
  rw [S1.out]
  rintro e z1 ⟨rfl, hb⟩
  replace HQ := hd ((hb.block _ (blk_lt HQ.out)).trans HQ.out)
  replace HB := hd (HB.out.trans (hb.mono HB.out.size))
  replace RL := hd ((RL.out.below hb (Nat.le_refl _)).mono hb.size)
  replace RG := hd ((RG.out.below hb (Nat.le_refl _)).mono hb.size)
  replace RU := hd ((RU.out.below hb (Nat.le_refl _)).mono hb.size)
  clear hb
  clear k0 k1 k2 k3
  go_wp2_with fail
  refine (shortRules_any _ l _ RU.out).mono ?_
  rw [S2.out]
  rintro e z2 ⟨rfl, rfl⟩
  have k0 := blk_cell HQ.out 0
  have k1 := blk_cell HQ.out 1
  have k2 := blk_cell HQ.out 2
  have k3 := blk_cell HQ.out 3
  simp at k0 k1 k2 k3
  go_wp2_with fail
  refine (lawRecord_any nm st _ _ bs gs _ RL.out RG.out FL.out FG'.out HN.out.1 HN.out.2.1).mono ?_
  rintro e z3 ⟨u1, u2, rfl, hu1, hu2, -, -, hb⟩
  have U1 := hd hu1
  have U2 := hd hu2
  clear hu1 hu2
  replace HQ := hd ((hb.block _ (blk_lt HQ.out)).trans HQ.out)
  replace HB := hd (HB.out.trans (hb.mono HB.out.size))
  replace RL := hd ((RL.out.below hb (Nat.le_refl _)).mono hb.size)
  replace RG := hd ((RG.out.below hb (Nat.le_refl _)).mono hb.size)
  replace RU := hd ((RU.out.below hb (Nat.le_refl _)).mono hb.size)
  clear hb
  clear k0 k1 k2 k3
  go_wp2_with fail
  refine (lawRules_any _ l _ RU.out HN.out.2.2).mono ?_
  rintro e z4 ⟨u3, rfl, hu3, hb⟩
  have U3 := hd (rd_of_own hu3)
  clear hu3
  replace HQ := hd ((hb.block _ (blk_lt HQ.out)).trans HQ.out)
  replace HB := hd (HB.out.trans (hb.mono HB.out.size))
  replace RL := hd ((RL.out.below hb (Nat.le_refl _)).mono hb.size)
  replace RG := hd ((RG.out.below hb (Nat.le_refl _)).mono hb.size)
  replace RU := hd ((RU.out.below hb (Nat.le_refl _)).mono hb.size)
  replace U1 := hd ((U1.out.below hb (Nat.le_refl _)).mono hb.size)
  replace U2 := hd ((U2.out.below hb (Nat.le_refl _)).mono hb.size)
  clear hb
  go_wp2_with fail
  refine (GH.out _ _ _ _ U1.out U2.out U3.out).mono ?_
  rintro e z5 ⟨vx, rfl, hv, hb⟩
  have RX := hd hv
  clear hv U1 U2 U3
  replace HQ := hd ((hb.block _ (blk_lt HQ.out)).trans HQ.out)
  replace HB := hd (HB.out.trans (hb.mono HB.out.size))
  replace RL := hd ((RL.out.below hb (Nat.le_refl _)).mono hb.size)
  replace RG := hd ((RG.out.below hb (Nat.le_refl _)).mono hb.size)
  replace RU := hd ((RU.out.below hb (Nat.le_refl _)).mono hb.size)
  clear hb
  have k0 := blk_cell HQ.out 0
  have k1 := blk_cell HQ.out 1
  have k2 := blk_cell HQ.out 2
  have k3 := blk_cell HQ.out 3
  simp at k0 k1 k2 k3
  go_wp2_with fail
  refine (lawRecord_any nm st _ _ bs gs _ RL.out RG.out FL.out FG'.out HN.out.1 HN.out.2.1).mono ?_
  rintro e z6 ⟨u1, u2, rfl, hu1, hu2, -, -, hb⟩
  have U1 := hd hu1
  have U2 := hd hu2
  clear hu1 hu2
  replace HQ := hd ((hb.block _ (blk_lt HQ.out)).trans HQ.out)
  replace HB := hd (HB.out.trans (hb.mono HB.out.size))
  replace RL := hd ((RL.out.below hb (Nat.le_refl _)).mono hb.size)
  replace RG := hd ((RG.out.below hb (Nat.le_refl _)).mono hb.size)
  replace RU := hd ((RU.out.below hb (Nat.le_refl _)).mono hb.size)
  replace RX := hd ((RX.out.below hb (Nat.le_refl _)).mono hb.size)
  clear hb
  clear k0 k1 k2 k3
  go_wp2_with fail
  refine (lawRules_any _ l _ RU.out HN.out.2.2).mono ?_
  rintro e z7 ⟨u3, rfl, hu3, hb⟩
  have U3 := hd (rd_of_own hu3)
  clear hu3
  replace HQ := hd ((hb.block _ (blk_lt HQ.out)).trans HQ.out)
  replace HB := hd (HB.out.trans (hb.mono HB.out.size))
  replace RL := hd ((RL.out.below hb (Nat.le_refl _)).mono hb.size)
  replace RG := hd ((RG.out.below hb (Nat.le_refl _)).mono hb.size)
  replace RU := hd ((RU.out.below hb (Nat.le_refl _)).mono hb.size)
  replace RX := hd ((RX.out.below hb (Nat.le_refl _)).mono hb.size)
  replace U1 := hd ((U1.out.below hb (Nat.le_refl _)).mono hb.size)
  replace U2 := hd ((U2.out.below hb (Nat.le_refl _)).mono hb.size)
  clear hb
  go_wp2_with fail
  refine (GC.out _ _ _ _ U1.out U2.out U3.out).mono ?_
  rintro e z8 ⟨v1, v2, rfl, hv1, hv2, hb⟩
  obtain ⟨B1, d1, rfl, -⟩ := id hv1
  obtain ⟨B2, d2, rfl, -⟩ := id hv2
  have RC1 := hd hv1
  have RC2 := hd hv2
  clear hv1 hv2 U1 U2 U3
  replace HQ := hd ((hb.block _ (blk_lt HQ.out)).trans HQ.out)
  replace HB := hd (HB.out.trans (hb.mono HB.out.size))
  replace RL := hd ((RL.out.below hb (Nat.le_refl _)).mono hb.size)
  replace RG := hd ((RG.out.below hb (Nat.le_refl _)).mono hb.size)
  replace RU := hd ((RU.out.below hb (Nat.le_refl _)).mono hb.size)
  replace RX := hd ((RX.out.below hb (Nat.le_refl _)).mono hb.size)
  clear hb
  have k0 := blk_cell HQ.out 0
  have k1 := blk_cell HQ.out 1
  have k2 := blk_cell HQ.out 2
  have k3 := blk_cell HQ.out 3
  simp at k0 k1 k2 k3
  have m0 := cell_alloc_old (o := (Obj.cells #[.string nm, .int .i64 st, .slice B1 CB.length d1, .slice B2 CG.length d2] 34)) k0
  have m1 := cell_alloc_old (o := (Obj.cells #[.string nm, .int .i64 st, .slice B1 CB.length d1, .slice B2 CG.length d2] 34)) k1
  have m2 := cell_alloc_old (o := (Obj.cells #[.string nm, .int .i64 st, .slice B1 CB.length d1, .slice B2 CG.length d2] 34)) k2
  have m3 := cell_alloc_old (o := (Obj.cells #[.string nm, .int .i64 st, .slice B1 CB.length d1, .slice B2 CG.length d2] 34)) k3
  go_wp2_with fail
  clear k0 k1 k2 k3
  clear m0 m1 m2 m3
  have hb := (Below.refl z8.heap.size z8).alloc (Nat.le_refl _) (Obj.cells #[.string nm, .int .i64 st, .slice B1 CB.length d1, .slice B2 CG.length d2] 34)
  have HC := hd (blk_new z8 #[.string nm, .int .i64 st, .slice B1 CB.length d1, .slice B2 CG.length d2] 34)
  replace HQ := hd ((hb.block _ (blk_lt HQ.out)).trans HQ.out)
  replace HB := hd (HB.out.trans (hb.mono HB.out.size))
  replace RL := hd ((RL.out.below hb (Nat.le_refl _)).mono hb.size)
  replace RG := hd ((RG.out.below hb (Nat.le_refl _)).mono hb.size)
  replace RU := hd ((RU.out.below hb (Nat.le_refl _)).mono hb.size)
  replace RX := hd ((RX.out.below hb (Nat.le_refl _)).mono hb.size)
  replace RC1 := hd ((RC1.out.below hb (Nat.le_refl _)).mono hb.size)
  replace RC2 := hd ((RC2.out.below hb (Nat.le_refl _)).mono hb.size)
  clear hb
  generalize hsHC : z8.heap.size = sHC at *
  generalize z8.alloc (Obj.cells #[.string nm, .int .i64 st, .slice B1 CB.length d1, .slice B2 CG.length d2] 34) = VHC at *
  clear hsHC
  have k0 := blk_cell HQ.out 0
  have k1 := blk_cell HQ.out 1
  have k2 := blk_cell HQ.out 2
  have k3 := blk_cell HQ.out 3
  simp at k0 k1 k2 k3
  refine (lawRecord_any nm st _ _ bs gs _ RL.out RG.out FL.out FG'.out HN.out.1 HN.out.2.1).mono ?_
  rintro e z9 ⟨u1, u2, rfl, hu1, hu2, -, -, hb⟩
  have U1 := hd hu1
  have U2 := hd hu2
  clear hu1 hu2
  replace HQ := hd ((hb.block _ (blk_lt HQ.out)).trans HQ.out)
  replace HC := hd ((hb.block _ (blk_lt HC.out)).trans HC.out)
  replace HB := hd (HB.out.trans (hb.mono HB.out.size))
  replace RL := hd ((RL.out.below hb (Nat.le_refl _)).mono hb.size)
  replace RG := hd ((RG.out.below hb (Nat.le_refl _)).mono hb.size)
  replace RU := hd ((RU.out.below hb (Nat.le_refl _)).mono hb.size)
  replace RX := hd ((RX.out.below hb (Nat.le_refl _)).mono hb.size)
  replace RC1 := hd ((RC1.out.below hb (Nat.le_refl _)).mono hb.size)
  replace RC2 := hd ((RC2.out.below hb (Nat.le_refl _)).mono hb.size)
  clear hb
  clear k0 k1 k2 k3
  go_wp2_with fail
  refine (GF.out _ _ _ U1.out U2.out).mono ?_
  rintro e z10 ⟨v4, v5, v6, rfl, hv4, hv5, hv6, hb⟩
  obtain ⟨B4, d4, rfl, -⟩ := id hv4
  obtain ⟨B5, d5, rfl, -⟩ := id hv5
  have RF1 := hd hv4
  have RF2 := hd hv5
  have RF3 := hd hv6
  clear hv4 hv5 hv6 U1 U2
  replace HQ := hd ((hb.block _ (blk_lt HQ.out)).trans HQ.out)
  replace HC := hd ((hb.block _ (blk_lt HC.out)).trans HC.out)
  replace HB := hd (HB.out.trans (hb.mono HB.out.size))
  replace RL := hd ((RL.out.below hb (Nat.le_refl _)).mono hb.size)
  replace RG := hd ((RG.out.below hb (Nat.le_refl _)).mono hb.size)
  replace RU := hd ((RU.out.below hb (Nat.le_refl _)).mono hb.size)
  replace RX := hd ((RX.out.below hb (Nat.le_refl _)).mono hb.size)
  replace RC1 := hd ((RC1.out.below hb (Nat.le_refl _)).mono hb.size)
  replace RC2 := hd ((RC2.out.below hb (Nat.le_refl _)).mono hb.size)
  clear hb
  have k0 := blk_cell HQ.out 0
  have k1 := blk_cell HQ.out 1
  have k2 := blk_cell HQ.out 2
  have k3 := blk_cell HQ.out 3
  simp at k0 k1 k2 k3
  have m0 := cell_alloc_old (o := (Obj.cells #[.string nm, .int .i64 st, .slice B4 FB.length d4, .slice B5 FG.length d5] 34)) k0
  have m1 := cell_alloc_old (o := (Obj.cells #[.string nm, .int .i64 st, .slice B4 FB.length d4, .slice B5 FG.length d5] 34)) k1
  have m2 := cell_alloc_old (o := (Obj.cells #[.string nm, .int .i64 st, .slice B4 FB.length d4, .slice B5 FG.length d5] 34)) k2
  have m3 := cell_alloc_old (o := (Obj.cells #[.string nm, .int .i64 st, .slice B4 FB.length d4, .slice B5 FG.length d5] 34)) k3
  go_wp2_with fail
  clear k0 k1 k2 k3
  clear m0 m1 m2 m3
  have hb := (Below.refl z10.heap.size z10).alloc (Nat.le_refl _) (Obj.cells #[.string nm, .int .i64 st, .slice B4 FB.length d4, .slice B5 FG.length d5] 34)
  have HF := hd (blk_new z10 #[.string nm, .int .i64 st, .slice B4 FB.length d4, .slice B5 FG.length d5] 34)
  replace HQ := hd ((hb.block _ (blk_lt HQ.out)).trans HQ.out)
  replace HC := hd ((hb.block _ (blk_lt HC.out)).trans HC.out)
  replace HB := hd (HB.out.trans (hb.mono HB.out.size))
  replace RL := hd ((RL.out.below hb (Nat.le_refl _)).mono hb.size)
  replace RG := hd ((RG.out.below hb (Nat.le_refl _)).mono hb.size)
  replace RU := hd ((RU.out.below hb (Nat.le_refl _)).mono hb.size)
  replace RX := hd ((RX.out.below hb (Nat.le_refl _)).mono hb.size)
  replace RC1 := hd ((RC1.out.below hb (Nat.le_refl _)).mono hb.size)
  replace RC2 := hd ((RC2.out.below hb (Nat.le_refl _)).mono hb.size)
  replace RF1 := hd ((RF1.out.below hb (Nat.le_refl _)).mono hb.size)
  replace RF2 := hd ((RF2.out.below hb (Nat.le_refl _)).mono hb.size)
  replace RF3 := hd ((RF3.out.below hb (Nat.le_refl _)).mono hb.size)
  clear hb
  generalize hsHF : z10.heap.size = sHF at *
  generalize z10.alloc (Obj.cells #[.string nm, .int .i64 st, .slice B4 FB.length d4, .slice B5 FG.length d5] 34) = VHF at *
  clear hsHF
  refine (CR.out _ _ _ RL.out RG.out).mono ?_
  rintro e z11 ⟨rfl, hb⟩
  replace HQ := hd ((hb.block _ (blk_lt HQ.out)).trans HQ.out)
  replace HC := hd ((hb.block _ (blk_lt HC.out)).trans HC.out)
  replace HF := hd ((hb.block _ (blk_lt HF.out)).trans HF.out)
  replace HB := hd (HB.out.trans (hb.mono HB.out.size))
  replace RL := hd ((RL.out.below hb (Nat.le_refl _)).mono hb.size)
  replace RG := hd ((RG.out.below hb (Nat.le_refl _)).mono hb.size)
  replace RU := hd ((RU.out.below hb (Nat.le_refl _)).mono hb.size)
  replace RX := hd ((RX.out.below hb (Nat.le_refl _)).mono hb.size)
  replace RC1 := hd ((RC1.out.below hb (Nat.le_refl _)).mono hb.size)
  replace RC2 := hd ((RC2.out.below hb (Nat.le_refl _)).mono hb.size)
  replace RF1 := hd ((RF1.out.below hb (Nat.le_refl _)).mono hb.size)
  replace RF2 := hd ((RF2.out.below hb (Nat.le_refl _)).mono hb.size)
  replace RF3 := hd ((RF3.out.below hb (Nat.le_refl _)).mono hb.size)
  clear hb
  go_wp2_with fail
  refine (CU.out _ _ RU.out).mono ?_
  rintro e z12 ⟨rfl, hb⟩
  replace HQ := hd ((hb.block _ (blk_lt HQ.out)).trans HQ.out)
  replace HC := hd ((hb.block _ (blk_lt HC.out)).trans HC.out)
  replace HF := hd ((hb.block _ (blk_lt HF.out)).trans HF.out)
  replace HB := hd (HB.out.trans (hb.mono HB.out.size))
  replace RL := hd ((RL.out.below hb (Nat.le_refl _)).mono hb.size)
  replace RG := hd ((RG.out.below hb (Nat.le_refl _)).mono hb.size)
  replace RU := hd ((RU.out.below hb (Nat.le_refl _)).mono hb.size)
  replace RX := hd ((RX.out.below hb (Nat.le_refl _)).mono hb.size)
  replace RC1 := hd ((RC1.out.below hb (Nat.le_refl _)).mono hb.size)
  replace RC2 := hd ((RC2.out.below hb (Nat.le_refl _)).mono hb.size)
  replace RF1 := hd ((RF1.out.below hb (Nat.le_refl _)).mono hb.size)
  replace RF2 := hd ((RF2.out.below hb (Nat.le_refl _)).mono hb.size)
  replace RF3 := hd ((RF3.out.below hb (Nat.le_refl _)).mono hb.size)
  clear hb
  go_wp2_with fail
  have hb := (Below.refl z12.heap.size z12).alloc (Nat.le_refl _) (Obj.cells #[.int .i64 E, .int .i64 (EU)] 3)
  have hR := hd (Rd.new z12 #[.int .i64 E, .int .i64 (EU)] 3 2 ([E, EU].map (Value.int .i64)) rfl (by decide))
  replace HQ := hd ((hb.block _ (blk_lt HQ.out)).trans HQ.out)
  replace HC := hd ((hb.block _ (blk_lt HC.out)).trans HC.out)
  replace HF := hd ((hb.block _ (blk_lt HF.out)).trans HF.out)
  replace HB := hd (HB.out.trans (hb.mono HB.out.size))
  replace RL := hd ((RL.out.below hb (Nat.le_refl _)).mono hb.size)
  replace RG := hd ((RG.out.below hb (Nat.le_refl _)).mono hb.size)
  replace RU := hd ((RU.out.below hb (Nat.le_refl _)).mono hb.size)
  replace RX := hd ((RX.out.below hb (Nat.le_refl _)).mono hb.size)
  replace RC1 := hd ((RC1.out.below hb (Nat.le_refl _)).mono hb.size)
  replace RC2 := hd ((RC2.out.below hb (Nat.le_refl _)).mono hb.size)
  replace RF1 := hd ((RF1.out.below hb (Nat.le_refl _)).mono hb.size)
  replace RF2 := hd ((RF2.out.below hb (Nat.le_refl _)).mono hb.size)
  replace RF3 := hd ((RF3.out.below hb (Nat.le_refl _)).mono hb.size)
  clear hb
  generalize z12.alloc (Obj.cells #[.int .i64 E, .int .i64 (EU)] 3) = Y0 at *
  refine (lawFirst_any _ [E, EU] _ hR.out).mono ?_
  rw [H1.out]
  rintro e w' ⟨rfl, rfl⟩
  clear hR
  go_wp2_with fail
  refine (refRange_any n 0 4096 _).mono ?_
  rintro e z13 ⟨rfl, hb⟩
  replace HQ := hd ((hb.block _ (blk_lt HQ.out)).trans HQ.out)
  replace HC := hd ((hb.block _ (blk_lt HC.out)).trans HC.out)
  replace HF := hd ((hb.block _ (blk_lt HF.out)).trans HF.out)
  replace HB := hd (HB.out.trans (hb.mono HB.out.size))
  replace RL := hd ((RL.out.below hb (Nat.le_refl _)).mono hb.size)
  replace RG := hd ((RG.out.below hb (Nat.le_refl _)).mono hb.size)
  replace RU := hd ((RU.out.below hb (Nat.le_refl _)).mono hb.size)
  replace RX := hd ((RX.out.below hb (Nat.le_refl _)).mono hb.size)
  replace RC1 := hd ((RC1.out.below hb (Nat.le_refl _)).mono hb.size)
  replace RC2 := hd ((RC2.out.below hb (Nat.le_refl _)).mono hb.size)
  replace RF1 := hd ((RF1.out.below hb (Nat.le_refl _)).mono hb.size)
  replace RF2 := hd ((RF2.out.below hb (Nat.le_refl _)).mono hb.size)
  replace RF3 := hd ((RF3.out.below hb (Nat.le_refl _)).mono hb.size)
  clear hb
  go_wp2_with fail
  have hb := (Below.refl z13.heap.size z13).alloc (Nat.le_refl _) (Obj.cells #[.int .i64 E, .int .i64 (rng n 0 4096)] 3)
  have hR := hd (Rd.new z13 #[.int .i64 E, .int .i64 (rng n 0 4096)] 3 2 ([E, rng n 0 4096].map (Value.int .i64)) rfl (by decide))
  replace HQ := hd ((hb.block _ (blk_lt HQ.out)).trans HQ.out)
  replace HC := hd ((hb.block _ (blk_lt HC.out)).trans HC.out)
  replace HF := hd ((hb.block _ (blk_lt HF.out)).trans HF.out)
  replace HB := hd (HB.out.trans (hb.mono HB.out.size))
  replace RL := hd ((RL.out.below hb (Nat.le_refl _)).mono hb.size)
  replace RG := hd ((RG.out.below hb (Nat.le_refl _)).mono hb.size)
  replace RU := hd ((RU.out.below hb (Nat.le_refl _)).mono hb.size)
  replace RX := hd ((RX.out.below hb (Nat.le_refl _)).mono hb.size)
  replace RC1 := hd ((RC1.out.below hb (Nat.le_refl _)).mono hb.size)
  replace RC2 := hd ((RC2.out.below hb (Nat.le_refl _)).mono hb.size)
  replace RF1 := hd ((RF1.out.below hb (Nat.le_refl _)).mono hb.size)
  replace RF2 := hd ((RF2.out.below hb (Nat.le_refl _)).mono hb.size)
  replace RF3 := hd ((RF3.out.below hb (Nat.le_refl _)).mono hb.size)
  clear hb
  generalize z13.alloc (Obj.cells #[.int .i64 E, .int .i64 (rng n 0 4096)] 3) = Y1 at *
  refine (lawFirst_any _ [E, rng n 0 4096] _ hR.out).mono ?_
  rw [H3.out]
  rintro e w' ⟨rfl, rfl⟩
  clear hR
  go_wp2_with fail
  have hb0 := ((Below.refl Y1.heap.size Y1).alloc (Nat.le_refl _) (Obj.cells #[.string ⟨#[]⟩, .int .i64 0, .slice none 0 0, .slice none 0 0] 25)).alloc (by simp) (Obj.cells #[.string ⟨#[]⟩, .int .i64 0, .slice none 0 0, .slice none 0 0] 25)
  have HY := hd hb0
  have HD1 := hd (show ((Y1.alloc (Obj.cells #[.string ⟨#[]⟩, .int .i64 0, .slice none 0 0, .slice none 0 0] 25)).alloc (Obj.cells #[.string ⟨#[]⟩, .int .i64 0, .slice none 0 0, .slice none 0 0] 25)).heap[Y1.heap.size]? = some (.cells #[.string ⟨#[]⟩, .int .i64 0, .slice none 0 0, .slice none 0 0] 25 (0, 0)) from (Below.heap_alloc _ _ _ (by simp)).trans (blk_new _ _ _))
  have HD2 := hd (show ((Y1.alloc (Obj.cells #[.string ⟨#[]⟩, .int .i64 0, .slice none 0 0, .slice none 0 0] 25)).alloc (Obj.cells #[.string ⟨#[]⟩, .int .i64 0, .slice none 0 0, .slice none 0 0] 25)).heap[Y1.heap.size + 1]? = some (.cells #[.string ⟨#[]⟩, .int .i64 0, .slice none 0 0, .slice none 0 0] 25 (0, 0)) from by have h := blk_new (Y1.alloc (Obj.cells #[.string ⟨#[]⟩, .int .i64 0, .slice none 0 0, .slice none 0 0] 25)) #[.string ⟨#[]⟩, .int .i64 0, .slice none 0 0, .slice none 0 0] 25; rw [World.size_alloc] at h; exact h)
  have HYS := hd (show ((Y1.alloc (Obj.cells #[.string ⟨#[]⟩, .int .i64 0, .slice none 0 0, .slice none 0 0] 25)).alloc (Obj.cells #[.string ⟨#[]⟩, .int .i64 0, .slice none 0 0, .slice none 0 0] 25)).heap.size = Y1.heap.size + 2 by simp)
  clear hb0
  have hqd : Y1.heap.size ≠ w.heap.size := by have := blk_lt HQ.out; omega
  have hqd' := hqd.symm
  generalize (Y1.alloc (Obj.cells #[.string ⟨#[]⟩, .int .i64 0, .slice none 0 0, .slice none 0 0] 25)).alloc (Obj.cells #[.string ⟨#[]⟩, .int .i64 0, .slice none 0 0, .slice none 0 0] 25) = V5 at *
  have hqk := (HY.out.block _ (blk_lt HQ.out)).trans HQ.out
  have k0 := blk_cell hqk 0
  have k1 := blk_cell hqk 1
  have k2 := blk_cell hqk 2
  have k3 := blk_cell hqk 3
  simp at k0 k1 k2 k3
  clear hqk
  go_region_held3 (fun x => x.cell? ⟨w.heap.size, 0, none⟩ = some (.string nm) ∧ x.cell? ⟨w.heap.size, 1, none⟩ = some (.int .i64 st) ∧ x.cell? ⟨w.heap.size, 2, none⟩ = some (.slice A bs.length c) ∧ x.cell? ⟨w.heap.size, 3, none⟩ = some (.slice A2 gs.length c2)) (go_keep) (first | (go_at_call 20; refine (RC.out _ _ _ _ ((RL.out.below HX1.out (Nat.le_refl _)).mono HX1.out.size) ((RG.out.below HX1.out (Nat.le_refl _)).mono HX1.out.size) ((RU.out.below HX1.out (Nat.le_refl _)).mono HX1.out.size)).mono ?_; rintro e y2 ⟨r2, r3, rfl, hv, hv3, hb⟩; obtain ⟨B7, d7, hr2, -⟩ := own_form hv; obtain ⟨B8, d8, hr3, -⟩ := own_form hv3; subst hr2; subst hr3; have hX : Below Y1.heap.size Y1 y2 := HX1.out.trans (hb.mono HX1.out.size); have hq := (hX.block _ (blk_lt HQ.out)).trans HQ.out; have q20 := blk_cell hq 0; have q21 := blk_cell hq 1; have q22 := blk_cell hq 2; have q23 := blk_cell hq 3; simp at q20 q21 q22 q23; have hW : Below V5.heap.size V5 y2 := HW1.out.trans (hb.mono HW1.out.size); have hd1 := (hW.block _ (blk_lt HD1.out)).trans HD1.out; have c0 := blk_cell hd1 0; have c1' := blk_cell hd1 1; have c2' := blk_cell hd1 2; have c3' := blk_cell hd1 3; simp at c0 c1' c2' c3'; have f0 := blk_frozen hd1 0; have f1 := blk_frozen hd1 1; have f2 := blk_frozen hd1 2; have f3 := blk_frozen hd1 3; have HX2 := hd hX; have HW2 := hd hW; have HE1 := hd hd1; have P2 := hd (And.intro (own_bel P1.out hb) (And.intro hv hv3)); clear hX hW hd1 hq hb hv hv3 q10 q11 q12 q13) | (go_at_call 19; refine (RH.out _ _ _ _ ((RL.out.below (HY.out.drew) (Nat.le_refl _)).mono (HY.out.drew).size) ((RG.out.below (HY.out.drew) (Nat.le_refl _)).mono (HY.out.drew).size) ((RU.out.below (HY.out.drew) (Nat.le_refl _)).mono (HY.out.drew).size)).mono ?_; rintro e y1 ⟨r1, rfl, hv, hb⟩; have hX : Below Y1.heap.size Y1 y1 := (HY.out.drew).trans (hb.mono (HY.out.drew).size); have hq := (hX.block _ (blk_lt HQ.out)).trans HQ.out; have q10 := blk_cell hq 0; have q11 := blk_cell hq 1; have q12 := blk_cell hq 2; have q13 := blk_cell hq 3; simp at q10 q11 q12 q13; have HX1 := hd hX; have HW1 := hd (show Below V5.heap.size V5 y1 from (Below.refl _ V5).drew.trans hb); have P1 := hd hv; clear hX hq hb hv k0 k1 k2 k3))
  change Exit.then _ _ _ _ (set4 y2 Y1.heap.size (.string nm) (.int .i64 st) (.slice B7 CB.length d7) (.slice B8 CG.length d8))
  have hls := HYS.out
  have hw1s := HW1.out.size
  have hvd : V5.drew.heap.size = V5.heap.size := rfl
  have O1 := hd (own_set4 (R := Y1.heap.size) (a := .string nm) (b := .int .i64 st) (c := .slice B7 CB.length d7) (d := .slice B8 CG.length d8) P2.out.1 (by omega))
  have O2 := hd (own_set4 (R := Y1.heap.size) (a := .string nm) (b := .int .i64 st) (c := .slice B7 CB.length d7) (d := .slice B8 CG.length d8) P2.out.2.1 (by omega))
  have O3 := hd (own_set4 (R := Y1.heap.size) (a := .string nm) (b := .int .i64 st) (c := .slice B7 CB.length d7) (d := .slice B8 CG.length d8) P2.out.2.2 (by omega))
  have HYn := hd (set4_below HX2.out (R := Y1.heap.size) (Nat.le_refl _) (.string nm) (.int .i64 st) (.slice B7 CB.length d7) (.slice B8 CG.length d8))
  have HD1n := hd (set4_blk HE1.out (.string nm) (.int .i64 st) (.slice B7 CB.length d7) (.slice B8 CG.length d8))
  have HD2n := hd ((set4_other y2 (R := Y1.heap.size) (D := Y1.heap.size + 1) (by omega) (.string nm) (.int .i64 st) (.slice B7 CB.length d7) (.slice B8 CG.length d8)).trans ((HW2.out.block _ (blk_lt HD2.out)).trans HD2.out))
  clear HY HD1 HD2 P1 P2 HX1 HX2 HW1 HW2 HE1 q20 q21 q22 q23 c0 c1' c2' c3' f0 f1 f2 f3 hls hw1s hvd
  generalize set4 y2 Y1.heap.size (.string nm) (.int .i64 st) (.slice B7 CB.length d7) (.slice B8 CG.length d8) = Z1 at *
  have hqk := (HYn.out.block _ (blk_lt HQ.out)).trans HQ.out
  have k0 := blk_cell hqk 0
  have k1 := blk_cell hqk 1
  have k2 := blk_cell hqk 2
  have k3 := blk_cell hqk 3
  simp at k0 k1 k2 k3
  clear hqk
  go_wp2_with fail
  refine (RF.out _ ((RL.out.below HYn.out (Nat.le_refl _)).mono HYn.out.size) ((RG.out.below HYn.out (Nat.le_refl _)).mono HYn.out.size)).mono ?_
  rintro e y3 ⟨r4, r5, r6, rfl, hv4, hv5, hv6, hb⟩
  obtain ⟨B9, d9, hr4, -⟩ := own_form hv4
  obtain ⟨B10, d10, hr5, -⟩ := own_form hv5
  subst hr4
  subst hr5
  clear k0 k1 k2 k3
  have hgt : Y1.heap.size + 1 < Z1.heap.size := blk_lt HD2n.out
  replace HD1n := hd ((hb.block _ (blk_lt HD1n.out)).trans HD1n.out)
  replace HD2n := hd ((hb.block _ (blk_lt HD2n.out)).trans HD2n.out)
  replace O1 := hd (own_bel O1.out hb)
  replace O2 := hd (own_bel O2.out hb)
  replace O3 := hd (own_bel O3.out hb)
  replace HYn := hd (HYn.out.trans (hb.mono HYn.out.size))
  clear hb
  have O4 := hd hv4
  have O5 := hd hv5
  have O6 := hd hv6
  clear hv4 hv5 hv6
  have c0 := blk_cell HD2n.out 0
  have c1' := blk_cell HD2n.out 1
  have c2' := blk_cell HD2n.out 2
  have c3' := blk_cell HD2n.out 3
  simp at c0 c1' c2' c3'
  have f0 := blk_frozen HD2n.out 0
  have f1 := blk_frozen HD2n.out 1
  have f2 := blk_frozen HD2n.out 2
  have f3 := blk_frozen HD2n.out 3
  go_wp2_with fail
  clear c0 c1' c2' c3' f0 f1 f2 f3
  change Calls _ _ _ (set4 y3 (Y1.heap.size + 1) (.string nm) (.int .i64 st) (.slice B9 FB.length d9) (.slice B10 FG.length d10)) _
  have hls := HYS.out
  replace O1 := hd (own_far4 (R := Y1.heap.size + 1) (a := .string nm) (b := .int .i64 st) (c := .slice B9 FB.length d9) (d := .slice B10 FG.length d10) O1.out (own_box O1.out HD2n.out (by decide)))
  replace O2 := hd (own_far4 (R := Y1.heap.size + 1) (a := .string nm) (b := .int .i64 st) (c := .slice B9 FB.length d9) (d := .slice B10 FG.length d10) O2.out (own_box O2.out HD2n.out (by decide)))
  replace O3 := hd (own_far4 (R := Y1.heap.size + 1) (a := .string nm) (b := .int .i64 st) (c := .slice B9 FB.length d9) (d := .slice B10 FG.length d10) O3.out (own_box O3.out HD2n.out (by decide)))
  replace O4 := hd (own_set4 (R := Y1.heap.size + 1) (a := .string nm) (b := .int .i64 st) (c := .slice B9 FB.length d9) (d := .slice B10 FG.length d10) O4.out hgt)
  replace O5 := hd (own_set4 (R := Y1.heap.size + 1) (a := .string nm) (b := .int .i64 st) (c := .slice B9 FB.length d9) (d := .slice B10 FG.length d10) O5.out hgt)
  replace O6 := hd (own_set4 (R := Y1.heap.size + 1) (a := .string nm) (b := .int .i64 st) (c := .slice B9 FB.length d9) (d := .slice B10 FG.length d10) O6.out hgt)
  have HD1m := hd ((set4_other y3 (R := Y1.heap.size + 1) (D := Y1.heap.size) (by omega) (.string nm) (.int .i64 st) (.slice B9 FB.length d9) (.slice B10 FG.length d10)).trans HD1n.out)
  have HD2m := hd (set4_blk HD2n.out (.string nm) (.int .i64 st) (.slice B9 FB.length d9) (.slice B10 FG.length d10))
  have HYm := hd (set4_below HYn.out (R := Y1.heap.size + 1) (by omega) (.string nm) (.int .i64 st) (.slice B9 FB.length d9) (.slice B10 FG.length d10))
  clear HYn HD1n HD2n hgt
  generalize set4 y3 (Y1.heap.size + 1) (.string nm) (.int .i64 st) (.slice B9 FB.length d9) (.slice B10 FG.length d10) = Z2 at *
  refine (sameInts_any _ _ X X _ ((RX.out.below HYm.out (Nat.le_refl _)).mono HYm.out.size) (rd_of_own O1.out)).mono ?_
  rw [sameF_refl]
  rintro e a1 ⟨rfl, hb⟩
  replace HD1m := hd ((hb.block _ (blk_lt HD1m.out)).trans HD1m.out)
  replace HD2m := hd ((hb.block _ (blk_lt HD2m.out)).trans HD2m.out)
  replace O1 := hd (own_bel O1.out hb)
  replace O2 := hd (own_bel O2.out hb)
  replace O3 := hd (own_bel O3.out hb)
  replace O4 := hd (own_bel O4.out hb)
  replace O5 := hd (own_bel O5.out hb)
  replace O6 := hd (own_bel O6.out hb)
  replace HYm := hd (HYm.out.trans (hb.mono HYm.out.size))
  clear hb
  have hx1' := (HYm.out.block _ (blk_lt HC.out)).trans HC.out
  have p0 := blk_cell hx1' 0
  have p1 := blk_cell hx1' 1
  have p2 := blk_cell hx1' 2
  have p3 := blk_cell hx1' 3
  have r0 := blk_cell HD1m.out 0
  have r1 := blk_cell HD1m.out 1
  have r2 := blk_cell HD1m.out 2
  have r3 := blk_cell HD1m.out 3
  simp at p0 p1 p2 p3 r0 r1 r2 r3
  clear hx1'
  go_wp2_with fail
  refine (told_ok nm st _ _ _ _ CB CB CG CG _ ((RC1.out.below HYm.out (Nat.le_refl _)).mono HYm.out.size) ((RC2.out.below HYm.out (Nat.le_refl _)).mono HYm.out.size) (rd_of_own O2.out) (rd_of_own O3.out) HLC.out (sm_spans CG)).mono ?_
  rintro e a2 ⟨rfl, hb⟩
  clear p0 p1 p2 p3 r0 r1 r2 r3
  replace HD1m := hd ((hb.block _ (blk_lt HD1m.out)).trans HD1m.out)
  replace HD2m := hd ((hb.block _ (blk_lt HD2m.out)).trans HD2m.out)
  replace O1 := hd (own_bel O1.out hb)
  replace O2 := hd (own_bel O2.out hb)
  replace O3 := hd (own_bel O3.out hb)
  replace O4 := hd (own_bel O4.out hb)
  replace O5 := hd (own_bel O5.out hb)
  replace O6 := hd (own_bel O6.out hb)
  replace HYm := hd (HYm.out.trans (hb.mono HYm.out.size))
  clear hb
  have hx1' := (HYm.out.block _ (blk_lt HF.out)).trans HF.out
  have p0 := blk_cell hx1' 0
  have p1 := blk_cell hx1' 1
  have p2 := blk_cell hx1' 2
  have p3 := blk_cell hx1' 3
  have r0 := blk_cell HD2m.out 0
  have r1 := blk_cell HD2m.out 1
  have r2 := blk_cell HD2m.out 2
  have r3 := blk_cell HD2m.out 3
  simp at p0 p1 p2 p3 r0 r1 r2 r3
  clear hx1'
  go_wp2_with fail
  refine (told_ok nm st _ _ _ _ FB FB FG FG _ ((RF1.out.below HYm.out (Nat.le_refl _)).mono HYm.out.size) ((RF2.out.below HYm.out (Nat.le_refl _)).mono HYm.out.size) (rd_of_own O4.out) (rd_of_own O5.out) HLF.out (sm_spans FG)).mono ?_
  rintro e a3 ⟨rfl, hb⟩
  clear p0 p1 p2 p3 r0 r1 r2 r3
  replace HD1m := hd ((hb.block _ (blk_lt HD1m.out)).trans HD1m.out)
  replace HD2m := hd ((hb.block _ (blk_lt HD2m.out)).trans HD2m.out)
  replace O1 := hd (own_bel O1.out hb)
  replace O2 := hd (own_bel O2.out hb)
  replace O3 := hd (own_bel O3.out hb)
  replace O4 := hd (own_bel O4.out hb)
  replace O5 := hd (own_bel O5.out hb)
  replace O6 := hd (own_bel O6.out hb)
  replace HYm := hd (HYm.out.trans (hb.mono HYm.out.size))
  clear hb
  go_wp2_with fail
  refine (sameSpans_any _ _ FF FF _ ((RF3.out.below HYm.out (Nat.le_refl _)).mono HYm.out.size) (rd_of_own O6.out)).mono ?_
  rw [sm_spans]
  rintro e a4 ⟨rfl, hb⟩
  have HBE := hd (HB.out.trans ((HYm.out.trans (hb.mono HYm.out.size)).mono HB.out.size))
  clear hb
  go_wp2_with fail
  go_returns
  exact ⟨rfl, HBE.out⟩

set_option maxRecDepth 1000000 in
set_option maxHeartbeats 16000000 in
theorem cleans_tf (HA : Hid Awake) (nm : ByteArray) (st n : Int) (A A2 A3 : Option Addr) (c c2 c3 : Nat) (bs : List Nat) (gs : List (Int × Int)) (l : List Ru) (X : List Int) (CB : List Nat) (CG : List (Int × Int)) (E EU x1 x3 : Int) (w : World)
    (HL : Hid (Rd w w.heap.size (.slice A bs.length c) bs.length (flc bs))) (HG : Hid (Rd w w.heap.size (.slice A2 gs.length c2) gs.length (spc gs))) (HU : Hid (Rd w w.heap.size (.slice A3 l.length c3) l.length (ruc l))) (FL : Hid (Full (.slice A bs.length c))) (FG' : Hid (Full (.slice A2 gs.length c2)))
    (S1 : Hid (shortR nm.size bs.length gs.length = true)) (S2 : Hid (shortRu l = true)) (HN : Hid (bs.length ≤ 100000 ∧ gs.length ≤ 100000 ∧ l.length ≤ 100000))
    (CR : Hid (∀ (W : World) (lv gv : Value), Rd W W.heap.size lv bs.length (flc bs) → Rd W W.heap.size gv gs.length (spc gs) → Calls Tryz.prog 15 #[.agg #[.string nm, .int .i64 st, lv, gv]] W fun e w' => e = .returned (.int .i64 E) ∧ Below W.heap.size W w'))
    (CU : Hid (∀ (W : World) (rv : Value), Rd W W.heap.size rv l.length (ruc l) → Calls Tryz.prog 17 #[rv] W fun e w' => e = .returned (.int .i64 EU) ∧ Below W.heap.size W w'))
    (H1 : Hid (fst0 [E, EU] = x1)) (h1 : (x1 == 0) = true) (H3 : Hid (fst0 [E, rng n 0 4096] = x3)) (h3 : (x3 == 0) = false)
    (GH : Hid (∀ (W : World) (lv gv rv : Value), Rd W W.heap.size lv bs.length (flc bs) → Rd W W.heap.size gv gs.length (spc gs) → Rd W W.heap.size rv l.length (ruc l) → Calls Tryz.prog 10 #[.agg #[.string nm, .int .i64 st, lv, gv], rv] W (GotR X 0 W)))
    (GC : Hid (∀ (W : World) (lv gv rv : Value), Rd W W.heap.size lv bs.length (flc bs) → Rd W W.heap.size gv gs.length (spc gs) → Rd W W.heap.size rv l.length (ruc l) → Calls Tryz.prog 13 #[.agg #[.string nm, .int .i64 st, lv, gv], rv] W (GotC nm st CB CG W)))
    (RH : Hid (∀ (W : World) (lv gv rv : Value), Rd W W.heap.size lv bs.length (flc bs) → Rd W W.heap.size gv gs.length (spc gs) → Rd W W.heap.size rv l.length (ruc l) → Calls Tryz.prog 19 #[.agg #[.string nm, .int .i64 st, lv, gv], rv] W (OwnsIn W.heap.size X W)))
    (RC : Hid (∀ (W : World) (lv gv rv : Value), Rd W W.heap.size lv bs.length (flc bs) → Rd W W.heap.size gv gs.length (spc gs) → Rd W W.heap.size rv l.length (ruc l) → Calls Tryz.prog 20 #[.agg #[.string nm, .int .i64 st, lv, gv], rv] W (OwnsRec W.heap.size nm st CB CG W)))
    (HLC : Hid (sameF feqL 0 CB CB = true))
    (GF : Hid (∀ (W : World) (lv gv : Value), Rd W W.heap.size lv bs.length (flc bs) → Rd W W.heap.size gv gs.length (spc gs) → Calls Tryz.prog 14 #[.agg #[.string nm, .int .i64 st, lv, gv], .int .i64 n] W fun e w' => e = .returned (.tuple #[.agg #[.string ⟨#[]⟩, .int .i64 0, .slice none 0 0, .slice none 0 0], .slice none 0 0, .int .i64 x3]) ∧ Below W.heap.size W w')) (hx3 : (x3 != 0) = true) :
    Calls Tryz.prog 3 #[.agg #[.string nm, .int .i64 st, .slice A bs.length c, .slice A2 gs.length c2], .slice A3 l.length c3, .int .i64 n] w fun e w' => e = .returned (.bool true) ∧ Below w.heap.size w w' := by
  obtain rfl : x1 = 0 := by simpa using h1
  have hc4 : bs.length ≤ c ∧ c ≤ 9223372036854775807 := by obtain ⟨A', c', e, h1, h2, -⟩ := HL.out; cases e; unfold maxLen at h2; omega
  obtain ⟨hc5, hc6⟩ := hc4
  have hb1 := (Below.refl w.heap.size w).alloc (Nat.le_refl _) (Obj.cells #[.string nm, .int .i64 st, .slice A bs.length c, .slice A2 gs.length c2] 25)
  have HQ := hd (blk_new w #[.string nm, .int .i64 st, .slice A bs.length c, .slice A2 gs.length c2] 25)
  have HB := hd hb1
  have RL := hd ((HL.out.below hb1 (Nat.le_refl _)).mono hb1.size)
  have RG := hd ((HG.out.below hb1 (Nat.le_refl _)).mono hb1.size)
  have RU := hd ((HU.out.below hb1 (Nat.le_refl _)).mono hb1.size)
  clear hb1
  go_enter Tryz.func3, Tryz.ntmps3
  go_wp2_with fail
  generalize w.alloc (Obj.cells #[.string nm, .int .i64 st, .slice A bs.length c, .slice A2 gs.length c2] 25) = W1 at *
  refine (HA.out _).mono ?_
  rintro e z0 ⟨rfl, hb⟩
  replace HQ := hd ((hb.block _ (blk_lt HQ.out)).trans HQ.out)
  replace HB := hd (HB.out.trans (hb.mono HB.out.size))
  replace RL := hd ((RL.out.below hb (Nat.le_refl _)).mono hb.size)
  replace RG := hd ((RG.out.below hb (Nat.le_refl _)).mono hb.size)
  replace RU := hd ((RU.out.below hb (Nat.le_refl _)).mono hb.size)
  clear hb
  have k0 := blk_cell HQ.out 0
  have k1 := blk_cell HQ.out 1
  have k2 := blk_cell HQ.out 2
  have k3 := blk_cell HQ.out 3
  simp at k0 k1 k2 k3
  go_wp2_with fail
  refine (short_any nm st A A2 bs.length c gs.length c2 _).mono ?_
  rw [S1.out]
  rintro e z1 ⟨rfl, hb⟩
  replace HQ := hd ((hb.block _ (blk_lt HQ.out)).trans HQ.out)
  replace HB := hd (HB.out.trans (hb.mono HB.out.size))
  replace RL := hd ((RL.out.below hb (Nat.le_refl _)).mono hb.size)
  replace RG := hd ((RG.out.below hb (Nat.le_refl _)).mono hb.size)
  replace RU := hd ((RU.out.below hb (Nat.le_refl _)).mono hb.size)
  clear hb
  clear k0 k1 k2 k3
  go_wp2_with fail
  refine (shortRules_any _ l _ RU.out).mono ?_
  rw [S2.out]
  rintro e z2 ⟨rfl, rfl⟩
  have k0 := blk_cell HQ.out 0
  have k1 := blk_cell HQ.out 1
  have k2 := blk_cell HQ.out 2
  have k3 := blk_cell HQ.out 3
  simp at k0 k1 k2 k3
  go_wp2_with fail
  refine (lawRecord_any nm st _ _ bs gs _ RL.out RG.out FL.out FG'.out HN.out.1 HN.out.2.1).mono ?_
  rintro e z3 ⟨u1, u2, rfl, hu1, hu2, -, -, hb⟩
  have U1 := hd hu1
  have U2 := hd hu2
  clear hu1 hu2
  replace HQ := hd ((hb.block _ (blk_lt HQ.out)).trans HQ.out)
  replace HB := hd (HB.out.trans (hb.mono HB.out.size))
  replace RL := hd ((RL.out.below hb (Nat.le_refl _)).mono hb.size)
  replace RG := hd ((RG.out.below hb (Nat.le_refl _)).mono hb.size)
  replace RU := hd ((RU.out.below hb (Nat.le_refl _)).mono hb.size)
  clear hb
  clear k0 k1 k2 k3
  go_wp2_with fail
  refine (lawRules_any _ l _ RU.out HN.out.2.2).mono ?_
  rintro e z4 ⟨u3, rfl, hu3, hb⟩
  have U3 := hd (rd_of_own hu3)
  clear hu3
  replace HQ := hd ((hb.block _ (blk_lt HQ.out)).trans HQ.out)
  replace HB := hd (HB.out.trans (hb.mono HB.out.size))
  replace RL := hd ((RL.out.below hb (Nat.le_refl _)).mono hb.size)
  replace RG := hd ((RG.out.below hb (Nat.le_refl _)).mono hb.size)
  replace RU := hd ((RU.out.below hb (Nat.le_refl _)).mono hb.size)
  replace U1 := hd ((U1.out.below hb (Nat.le_refl _)).mono hb.size)
  replace U2 := hd ((U2.out.below hb (Nat.le_refl _)).mono hb.size)
  clear hb
  go_wp2_with fail
  refine (GH.out _ _ _ _ U1.out U2.out U3.out).mono ?_
  rintro e z5 ⟨vx, rfl, hv, hb⟩
  have RX := hd hv
  clear hv U1 U2 U3
  replace HQ := hd ((hb.block _ (blk_lt HQ.out)).trans HQ.out)
  replace HB := hd (HB.out.trans (hb.mono HB.out.size))
  replace RL := hd ((RL.out.below hb (Nat.le_refl _)).mono hb.size)
  replace RG := hd ((RG.out.below hb (Nat.le_refl _)).mono hb.size)
  replace RU := hd ((RU.out.below hb (Nat.le_refl _)).mono hb.size)
  clear hb
  have k0 := blk_cell HQ.out 0
  have k1 := blk_cell HQ.out 1
  have k2 := blk_cell HQ.out 2
  have k3 := blk_cell HQ.out 3
  simp at k0 k1 k2 k3
  go_wp2_with fail
  refine (lawRecord_any nm st _ _ bs gs _ RL.out RG.out FL.out FG'.out HN.out.1 HN.out.2.1).mono ?_
  rintro e z6 ⟨u1, u2, rfl, hu1, hu2, -, -, hb⟩
  have U1 := hd hu1
  have U2 := hd hu2
  clear hu1 hu2
  replace HQ := hd ((hb.block _ (blk_lt HQ.out)).trans HQ.out)
  replace HB := hd (HB.out.trans (hb.mono HB.out.size))
  replace RL := hd ((RL.out.below hb (Nat.le_refl _)).mono hb.size)
  replace RG := hd ((RG.out.below hb (Nat.le_refl _)).mono hb.size)
  replace RU := hd ((RU.out.below hb (Nat.le_refl _)).mono hb.size)
  replace RX := hd ((RX.out.below hb (Nat.le_refl _)).mono hb.size)
  clear hb
  clear k0 k1 k2 k3
  go_wp2_with fail
  refine (lawRules_any _ l _ RU.out HN.out.2.2).mono ?_
  rintro e z7 ⟨u3, rfl, hu3, hb⟩
  have U3 := hd (rd_of_own hu3)
  clear hu3
  replace HQ := hd ((hb.block _ (blk_lt HQ.out)).trans HQ.out)
  replace HB := hd (HB.out.trans (hb.mono HB.out.size))
  replace RL := hd ((RL.out.below hb (Nat.le_refl _)).mono hb.size)
  replace RG := hd ((RG.out.below hb (Nat.le_refl _)).mono hb.size)
  replace RU := hd ((RU.out.below hb (Nat.le_refl _)).mono hb.size)
  replace RX := hd ((RX.out.below hb (Nat.le_refl _)).mono hb.size)
  replace U1 := hd ((U1.out.below hb (Nat.le_refl _)).mono hb.size)
  replace U2 := hd ((U2.out.below hb (Nat.le_refl _)).mono hb.size)
  clear hb
  go_wp2_with fail
  refine (GC.out _ _ _ _ U1.out U2.out U3.out).mono ?_
  rintro e z8 ⟨v1, v2, rfl, hv1, hv2, hb⟩
  obtain ⟨B1, d1, rfl, -⟩ := id hv1
  obtain ⟨B2, d2, rfl, -⟩ := id hv2
  have RC1 := hd hv1
  have RC2 := hd hv2
  clear hv1 hv2 U1 U2 U3
  replace HQ := hd ((hb.block _ (blk_lt HQ.out)).trans HQ.out)
  replace HB := hd (HB.out.trans (hb.mono HB.out.size))
  replace RL := hd ((RL.out.below hb (Nat.le_refl _)).mono hb.size)
  replace RG := hd ((RG.out.below hb (Nat.le_refl _)).mono hb.size)
  replace RU := hd ((RU.out.below hb (Nat.le_refl _)).mono hb.size)
  replace RX := hd ((RX.out.below hb (Nat.le_refl _)).mono hb.size)
  clear hb
  have k0 := blk_cell HQ.out 0
  have k1 := blk_cell HQ.out 1
  have k2 := blk_cell HQ.out 2
  have k3 := blk_cell HQ.out 3
  simp at k0 k1 k2 k3
  have m0 := cell_alloc_old (o := (Obj.cells #[.string nm, .int .i64 st, .slice B1 CB.length d1, .slice B2 CG.length d2] 34)) k0
  have m1 := cell_alloc_old (o := (Obj.cells #[.string nm, .int .i64 st, .slice B1 CB.length d1, .slice B2 CG.length d2] 34)) k1
  have m2 := cell_alloc_old (o := (Obj.cells #[.string nm, .int .i64 st, .slice B1 CB.length d1, .slice B2 CG.length d2] 34)) k2
  have m3 := cell_alloc_old (o := (Obj.cells #[.string nm, .int .i64 st, .slice B1 CB.length d1, .slice B2 CG.length d2] 34)) k3
  go_wp2_with fail
  clear k0 k1 k2 k3
  clear m0 m1 m2 m3
  have hb := (Below.refl z8.heap.size z8).alloc (Nat.le_refl _) (Obj.cells #[.string nm, .int .i64 st, .slice B1 CB.length d1, .slice B2 CG.length d2] 34)
  have HC := hd (blk_new z8 #[.string nm, .int .i64 st, .slice B1 CB.length d1, .slice B2 CG.length d2] 34)
  replace HQ := hd ((hb.block _ (blk_lt HQ.out)).trans HQ.out)
  replace HB := hd (HB.out.trans (hb.mono HB.out.size))
  replace RL := hd ((RL.out.below hb (Nat.le_refl _)).mono hb.size)
  replace RG := hd ((RG.out.below hb (Nat.le_refl _)).mono hb.size)
  replace RU := hd ((RU.out.below hb (Nat.le_refl _)).mono hb.size)
  replace RX := hd ((RX.out.below hb (Nat.le_refl _)).mono hb.size)
  replace RC1 := hd ((RC1.out.below hb (Nat.le_refl _)).mono hb.size)
  replace RC2 := hd ((RC2.out.below hb (Nat.le_refl _)).mono hb.size)
  clear hb
  generalize hsHC : z8.heap.size = sHC at *
  generalize z8.alloc (Obj.cells #[.string nm, .int .i64 st, .slice B1 CB.length d1, .slice B2 CG.length d2] 34) = VHC at *
  clear hsHC
  have k0 := blk_cell HQ.out 0
  have k1 := blk_cell HQ.out 1
  have k2 := blk_cell HQ.out 2
  have k3 := blk_cell HQ.out 3
  simp at k0 k1 k2 k3
  refine (lawRecord_any nm st _ _ bs gs _ RL.out RG.out FL.out FG'.out HN.out.1 HN.out.2.1).mono ?_
  rintro e z9 ⟨u1, u2, rfl, hu1, hu2, -, -, hb⟩
  have U1 := hd hu1
  have U2 := hd hu2
  clear hu1 hu2
  replace HQ := hd ((hb.block _ (blk_lt HQ.out)).trans HQ.out)
  replace HC := hd ((hb.block _ (blk_lt HC.out)).trans HC.out)
  replace HB := hd (HB.out.trans (hb.mono HB.out.size))
  replace RL := hd ((RL.out.below hb (Nat.le_refl _)).mono hb.size)
  replace RG := hd ((RG.out.below hb (Nat.le_refl _)).mono hb.size)
  replace RU := hd ((RU.out.below hb (Nat.le_refl _)).mono hb.size)
  replace RX := hd ((RX.out.below hb (Nat.le_refl _)).mono hb.size)
  replace RC1 := hd ((RC1.out.below hb (Nat.le_refl _)).mono hb.size)
  replace RC2 := hd ((RC2.out.below hb (Nat.le_refl _)).mono hb.size)
  clear hb
  clear k0 k1 k2 k3
  go_wp2_with fail
  refine (GF.out _ _ _ U1.out U2.out).mono ?_
  rintro e z10 ⟨rfl, hb⟩
  clear U1 U2
  replace HQ := hd ((hb.block _ (blk_lt HQ.out)).trans HQ.out)
  replace HC := hd ((hb.block _ (blk_lt HC.out)).trans HC.out)
  replace HB := hd (HB.out.trans (hb.mono HB.out.size))
  replace RL := hd ((RL.out.below hb (Nat.le_refl _)).mono hb.size)
  replace RG := hd ((RG.out.below hb (Nat.le_refl _)).mono hb.size)
  replace RU := hd ((RU.out.below hb (Nat.le_refl _)).mono hb.size)
  replace RX := hd ((RX.out.below hb (Nat.le_refl _)).mono hb.size)
  replace RC1 := hd ((RC1.out.below hb (Nat.le_refl _)).mono hb.size)
  replace RC2 := hd ((RC2.out.below hb (Nat.le_refl _)).mono hb.size)
  clear hb
  have k0 := blk_cell HQ.out 0
  have k1 := blk_cell HQ.out 1
  have k2 := blk_cell HQ.out 2
  have k3 := blk_cell HQ.out 3
  simp at k0 k1 k2 k3
  have m0 := cell_alloc_old (o := (Obj.cells #[.string ⟨#[]⟩, .int .i64 0, .slice none 0 0, .slice none 0 0] 34)) k0
  have m1 := cell_alloc_old (o := (Obj.cells #[.string ⟨#[]⟩, .int .i64 0, .slice none 0 0, .slice none 0 0] 34)) k1
  have m2 := cell_alloc_old (o := (Obj.cells #[.string ⟨#[]⟩, .int .i64 0, .slice none 0 0, .slice none 0 0] 34)) k2
  have m3 := cell_alloc_old (o := (Obj.cells #[.string ⟨#[]⟩, .int .i64 0, .slice none 0 0, .slice none 0 0] 34)) k3
  go_wp2_with fail
  clear k0 k1 k2 k3
  clear m0 m1 m2 m3
  have hb := (Below.refl z10.heap.size z10).alloc (Nat.le_refl _) (Obj.cells #[.string ⟨#[]⟩, .int .i64 0, .slice none 0 0, .slice none 0 0] 34)
  have HF := hd (blk_new z10 #[.string ⟨#[]⟩, .int .i64 0, .slice none 0 0, .slice none 0 0] 34)
  replace HQ := hd ((hb.block _ (blk_lt HQ.out)).trans HQ.out)
  replace HC := hd ((hb.block _ (blk_lt HC.out)).trans HC.out)
  replace HB := hd (HB.out.trans (hb.mono HB.out.size))
  replace RL := hd ((RL.out.below hb (Nat.le_refl _)).mono hb.size)
  replace RG := hd ((RG.out.below hb (Nat.le_refl _)).mono hb.size)
  replace RU := hd ((RU.out.below hb (Nat.le_refl _)).mono hb.size)
  replace RX := hd ((RX.out.below hb (Nat.le_refl _)).mono hb.size)
  replace RC1 := hd ((RC1.out.below hb (Nat.le_refl _)).mono hb.size)
  replace RC2 := hd ((RC2.out.below hb (Nat.le_refl _)).mono hb.size)
  clear hb
  generalize hsHF : z10.heap.size = sHF at *
  generalize z10.alloc (Obj.cells #[.string ⟨#[]⟩, .int .i64 0, .slice none 0 0, .slice none 0 0] 34) = VHF at *
  clear hsHF
  refine (CR.out _ _ _ RL.out RG.out).mono ?_
  rintro e z11 ⟨rfl, hb⟩
  replace HQ := hd ((hb.block _ (blk_lt HQ.out)).trans HQ.out)
  replace HC := hd ((hb.block _ (blk_lt HC.out)).trans HC.out)
  replace HF := hd ((hb.block _ (blk_lt HF.out)).trans HF.out)
  replace HB := hd (HB.out.trans (hb.mono HB.out.size))
  replace RL := hd ((RL.out.below hb (Nat.le_refl _)).mono hb.size)
  replace RG := hd ((RG.out.below hb (Nat.le_refl _)).mono hb.size)
  replace RU := hd ((RU.out.below hb (Nat.le_refl _)).mono hb.size)
  replace RX := hd ((RX.out.below hb (Nat.le_refl _)).mono hb.size)
  replace RC1 := hd ((RC1.out.below hb (Nat.le_refl _)).mono hb.size)
  replace RC2 := hd ((RC2.out.below hb (Nat.le_refl _)).mono hb.size)
  clear hb
  go_wp2_with fail
  refine (CU.out _ _ RU.out).mono ?_
  rintro e z12 ⟨rfl, hb⟩
  replace HQ := hd ((hb.block _ (blk_lt HQ.out)).trans HQ.out)
  replace HC := hd ((hb.block _ (blk_lt HC.out)).trans HC.out)
  replace HF := hd ((hb.block _ (blk_lt HF.out)).trans HF.out)
  replace HB := hd (HB.out.trans (hb.mono HB.out.size))
  replace RL := hd ((RL.out.below hb (Nat.le_refl _)).mono hb.size)
  replace RG := hd ((RG.out.below hb (Nat.le_refl _)).mono hb.size)
  replace RU := hd ((RU.out.below hb (Nat.le_refl _)).mono hb.size)
  replace RX := hd ((RX.out.below hb (Nat.le_refl _)).mono hb.size)
  replace RC1 := hd ((RC1.out.below hb (Nat.le_refl _)).mono hb.size)
  replace RC2 := hd ((RC2.out.below hb (Nat.le_refl _)).mono hb.size)
  clear hb
  go_wp2_with fail
  have hb := (Below.refl z12.heap.size z12).alloc (Nat.le_refl _) (Obj.cells #[.int .i64 E, .int .i64 (EU)] 3)
  have hR := hd (Rd.new z12 #[.int .i64 E, .int .i64 (EU)] 3 2 ([E, EU].map (Value.int .i64)) rfl (by decide))
  replace HQ := hd ((hb.block _ (blk_lt HQ.out)).trans HQ.out)
  replace HC := hd ((hb.block _ (blk_lt HC.out)).trans HC.out)
  replace HF := hd ((hb.block _ (blk_lt HF.out)).trans HF.out)
  replace HB := hd (HB.out.trans (hb.mono HB.out.size))
  replace RL := hd ((RL.out.below hb (Nat.le_refl _)).mono hb.size)
  replace RG := hd ((RG.out.below hb (Nat.le_refl _)).mono hb.size)
  replace RU := hd ((RU.out.below hb (Nat.le_refl _)).mono hb.size)
  replace RX := hd ((RX.out.below hb (Nat.le_refl _)).mono hb.size)
  replace RC1 := hd ((RC1.out.below hb (Nat.le_refl _)).mono hb.size)
  replace RC2 := hd ((RC2.out.below hb (Nat.le_refl _)).mono hb.size)
  clear hb
  generalize z12.alloc (Obj.cells #[.int .i64 E, .int .i64 (EU)] 3) = Y0 at *
  refine (lawFirst_any _ [E, EU] _ hR.out).mono ?_
  rw [H1.out]
  rintro e w' ⟨rfl, rfl⟩
  clear hR
  go_wp2_with fail
  refine (refRange_any n 0 4096 _).mono ?_
  rintro e z13 ⟨rfl, hb⟩
  replace HQ := hd ((hb.block _ (blk_lt HQ.out)).trans HQ.out)
  replace HC := hd ((hb.block _ (blk_lt HC.out)).trans HC.out)
  replace HF := hd ((hb.block _ (blk_lt HF.out)).trans HF.out)
  replace HB := hd (HB.out.trans (hb.mono HB.out.size))
  replace RL := hd ((RL.out.below hb (Nat.le_refl _)).mono hb.size)
  replace RG := hd ((RG.out.below hb (Nat.le_refl _)).mono hb.size)
  replace RU := hd ((RU.out.below hb (Nat.le_refl _)).mono hb.size)
  replace RX := hd ((RX.out.below hb (Nat.le_refl _)).mono hb.size)
  replace RC1 := hd ((RC1.out.below hb (Nat.le_refl _)).mono hb.size)
  replace RC2 := hd ((RC2.out.below hb (Nat.le_refl _)).mono hb.size)
  clear hb
  go_wp2_with fail
  have hb := (Below.refl z13.heap.size z13).alloc (Nat.le_refl _) (Obj.cells #[.int .i64 E, .int .i64 (rng n 0 4096)] 3)
  have hR := hd (Rd.new z13 #[.int .i64 E, .int .i64 (rng n 0 4096)] 3 2 ([E, rng n 0 4096].map (Value.int .i64)) rfl (by decide))
  replace HQ := hd ((hb.block _ (blk_lt HQ.out)).trans HQ.out)
  replace HC := hd ((hb.block _ (blk_lt HC.out)).trans HC.out)
  replace HF := hd ((hb.block _ (blk_lt HF.out)).trans HF.out)
  replace HB := hd (HB.out.trans (hb.mono HB.out.size))
  replace RL := hd ((RL.out.below hb (Nat.le_refl _)).mono hb.size)
  replace RG := hd ((RG.out.below hb (Nat.le_refl _)).mono hb.size)
  replace RU := hd ((RU.out.below hb (Nat.le_refl _)).mono hb.size)
  replace RX := hd ((RX.out.below hb (Nat.le_refl _)).mono hb.size)
  replace RC1 := hd ((RC1.out.below hb (Nat.le_refl _)).mono hb.size)
  replace RC2 := hd ((RC2.out.below hb (Nat.le_refl _)).mono hb.size)
  clear hb
  generalize z13.alloc (Obj.cells #[.int .i64 E, .int .i64 (rng n 0 4096)] 3) = Y1 at *
  refine (lawFirst_any _ [E, rng n 0 4096] _ hR.out).mono ?_
  rw [H3.out]
  rintro e w' ⟨rfl, rfl⟩
  clear hR
  go_wp2_with fail
  have hb0 := ((Below.refl Y1.heap.size Y1).alloc (Nat.le_refl _) (Obj.cells #[.string ⟨#[]⟩, .int .i64 0, .slice none 0 0, .slice none 0 0] 25)).alloc (by simp) (Obj.cells #[.string ⟨#[]⟩, .int .i64 0, .slice none 0 0, .slice none 0 0] 25)
  have HY := hd hb0
  have HD1 := hd (show ((Y1.alloc (Obj.cells #[.string ⟨#[]⟩, .int .i64 0, .slice none 0 0, .slice none 0 0] 25)).alloc (Obj.cells #[.string ⟨#[]⟩, .int .i64 0, .slice none 0 0, .slice none 0 0] 25)).heap[Y1.heap.size]? = some (.cells #[.string ⟨#[]⟩, .int .i64 0, .slice none 0 0, .slice none 0 0] 25 (0, 0)) from (Below.heap_alloc _ _ _ (by simp)).trans (blk_new _ _ _))
  have HD2 := hd (show ((Y1.alloc (Obj.cells #[.string ⟨#[]⟩, .int .i64 0, .slice none 0 0, .slice none 0 0] 25)).alloc (Obj.cells #[.string ⟨#[]⟩, .int .i64 0, .slice none 0 0, .slice none 0 0] 25)).heap[Y1.heap.size + 1]? = some (.cells #[.string ⟨#[]⟩, .int .i64 0, .slice none 0 0, .slice none 0 0] 25 (0, 0)) from by have h := blk_new (Y1.alloc (Obj.cells #[.string ⟨#[]⟩, .int .i64 0, .slice none 0 0, .slice none 0 0] 25)) #[.string ⟨#[]⟩, .int .i64 0, .slice none 0 0, .slice none 0 0] 25; rw [World.size_alloc] at h; exact h)
  have HYS := hd (show ((Y1.alloc (Obj.cells #[.string ⟨#[]⟩, .int .i64 0, .slice none 0 0, .slice none 0 0] 25)).alloc (Obj.cells #[.string ⟨#[]⟩, .int .i64 0, .slice none 0 0, .slice none 0 0] 25)).heap.size = Y1.heap.size + 2 by simp)
  clear hb0
  have hqd : Y1.heap.size ≠ w.heap.size := by have := blk_lt HQ.out; omega
  have hqd' := hqd.symm
  generalize (Y1.alloc (Obj.cells #[.string ⟨#[]⟩, .int .i64 0, .slice none 0 0, .slice none 0 0] 25)).alloc (Obj.cells #[.string ⟨#[]⟩, .int .i64 0, .slice none 0 0, .slice none 0 0] 25) = V5 at *
  have hqk := (HY.out.block _ (blk_lt HQ.out)).trans HQ.out
  have k0 := blk_cell hqk 0
  have k1 := blk_cell hqk 1
  have k2 := blk_cell hqk 2
  have k3 := blk_cell hqk 3
  simp at k0 k1 k2 k3
  clear hqk
  go_region_held3 (fun x => x.cell? ⟨w.heap.size, 0, none⟩ = some (.string nm) ∧ x.cell? ⟨w.heap.size, 1, none⟩ = some (.int .i64 st) ∧ x.cell? ⟨w.heap.size, 2, none⟩ = some (.slice A bs.length c) ∧ x.cell? ⟨w.heap.size, 3, none⟩ = some (.slice A2 gs.length c2)) (go_keep) (first | (go_at_call 20; refine (RC.out _ _ _ _ ((RL.out.below HX1.out (Nat.le_refl _)).mono HX1.out.size) ((RG.out.below HX1.out (Nat.le_refl _)).mono HX1.out.size) ((RU.out.below HX1.out (Nat.le_refl _)).mono HX1.out.size)).mono ?_; rintro e y2 ⟨r2, r3, rfl, hv, hv3, hb⟩; obtain ⟨B7, d7, hr2, -⟩ := own_form hv; obtain ⟨B8, d8, hr3, -⟩ := own_form hv3; subst hr2; subst hr3; have hX : Below Y1.heap.size Y1 y2 := HX1.out.trans (hb.mono HX1.out.size); have hq := (hX.block _ (blk_lt HQ.out)).trans HQ.out; have q20 := blk_cell hq 0; have q21 := blk_cell hq 1; have q22 := blk_cell hq 2; have q23 := blk_cell hq 3; simp at q20 q21 q22 q23; have hW : Below V5.heap.size V5 y2 := HW1.out.trans (hb.mono HW1.out.size); have hd1 := (hW.block _ (blk_lt HD1.out)).trans HD1.out; have c0 := blk_cell hd1 0; have c1' := blk_cell hd1 1; have c2' := blk_cell hd1 2; have c3' := blk_cell hd1 3; simp at c0 c1' c2' c3'; have f0 := blk_frozen hd1 0; have f1 := blk_frozen hd1 1; have f2 := blk_frozen hd1 2; have f3 := blk_frozen hd1 3; have HX2 := hd hX; have HW2 := hd hW; have HE1 := hd hd1; have P2 := hd (And.intro (own_bel P1.out hb) (And.intro hv hv3)); clear hX hW hd1 hq hb hv hv3 q10 q11 q12 q13) | (go_at_call 19; refine (RH.out _ _ _ _ ((RL.out.below (HY.out.drew) (Nat.le_refl _)).mono (HY.out.drew).size) ((RG.out.below (HY.out.drew) (Nat.le_refl _)).mono (HY.out.drew).size) ((RU.out.below (HY.out.drew) (Nat.le_refl _)).mono (HY.out.drew).size)).mono ?_; rintro e y1 ⟨r1, rfl, hv, hb⟩; have hX : Below Y1.heap.size Y1 y1 := (HY.out.drew).trans (hb.mono (HY.out.drew).size); have hq := (hX.block _ (blk_lt HQ.out)).trans HQ.out; have q10 := blk_cell hq 0; have q11 := blk_cell hq 1; have q12 := blk_cell hq 2; have q13 := blk_cell hq 3; simp at q10 q11 q12 q13; have HX1 := hd hX; have HW1 := hd (show Below V5.heap.size V5 y1 from (Below.refl _ V5).drew.trans hb); have P1 := hd hv; clear hX hq hb hv k0 k1 k2 k3))
  change Exit.then _ _ _ _ (set4 y2 Y1.heap.size (.string nm) (.int .i64 st) (.slice B7 CB.length d7) (.slice B8 CG.length d8))
  have hls := HYS.out
  have hw1s := HW1.out.size
  have hvd : V5.drew.heap.size = V5.heap.size := rfl
  have O1 := hd (own_set4 (R := Y1.heap.size) (a := .string nm) (b := .int .i64 st) (c := .slice B7 CB.length d7) (d := .slice B8 CG.length d8) P2.out.1 (by omega))
  have O2 := hd (own_set4 (R := Y1.heap.size) (a := .string nm) (b := .int .i64 st) (c := .slice B7 CB.length d7) (d := .slice B8 CG.length d8) P2.out.2.1 (by omega))
  have O3 := hd (own_set4 (R := Y1.heap.size) (a := .string nm) (b := .int .i64 st) (c := .slice B7 CB.length d7) (d := .slice B8 CG.length d8) P2.out.2.2 (by omega))
  have HYn := hd (set4_below HX2.out (R := Y1.heap.size) (Nat.le_refl _) (.string nm) (.int .i64 st) (.slice B7 CB.length d7) (.slice B8 CG.length d8))
  have HD1n := hd (set4_blk HE1.out (.string nm) (.int .i64 st) (.slice B7 CB.length d7) (.slice B8 CG.length d8))
  have HD2n := hd ((set4_other y2 (R := Y1.heap.size) (D := Y1.heap.size + 1) (by omega) (.string nm) (.int .i64 st) (.slice B7 CB.length d7) (.slice B8 CG.length d8)).trans ((HW2.out.block _ (blk_lt HD2.out)).trans HD2.out))
  clear HY HD1 HD2 P1 P2 HX1 HX2 HW1 HW2 HE1 q20 q21 q22 q23 c0 c1' c2' c3' f0 f1 f2 f3 hls hw1s hvd
  generalize set4 y2 Y1.heap.size (.string nm) (.int .i64 st) (.slice B7 CB.length d7) (.slice B8 CG.length d8) = Z1 at *
  go_wp2_with fail
  refine (sameInts_any _ _ X X _ ((RX.out.below HYn.out (Nat.le_refl _)).mono HYn.out.size) (rd_of_own O1.out)).mono ?_
  rw [sameF_refl]
  rintro e a1 ⟨rfl, hb⟩
  replace HD1n := hd ((hb.block _ (blk_lt HD1n.out)).trans HD1n.out)
  replace HD2n := hd ((hb.block _ (blk_lt HD2n.out)).trans HD2n.out)
  replace O1 := hd (own_bel O1.out hb)
  replace O2 := hd (own_bel O2.out hb)
  replace O3 := hd (own_bel O3.out hb)
  replace HYn := hd (HYn.out.trans (hb.mono HYn.out.size))
  clear hb
  have hx1' := (HYn.out.block _ (blk_lt HC.out)).trans HC.out
  have p0 := blk_cell hx1' 0
  have p1 := blk_cell hx1' 1
  have p2 := blk_cell hx1' 2
  have p3 := blk_cell hx1' 3
  have r0 := blk_cell HD1n.out 0
  have r1 := blk_cell HD1n.out 1
  have r2 := blk_cell HD1n.out 2
  have r3 := blk_cell HD1n.out 3
  simp at p0 p1 p2 p3 r0 r1 r2 r3
  clear hx1'
  go_wp2_with fail
  refine (told_ok nm st _ _ _ _ CB CB CG CG _ ((RC1.out.below HYn.out (Nat.le_refl _)).mono HYn.out.size) ((RC2.out.below HYn.out (Nat.le_refl _)).mono HYn.out.size) (rd_of_own O2.out) (rd_of_own O3.out) HLC.out (sm_spans CG)).mono ?_
  rintro e a2 ⟨rfl, hb⟩
  clear p0 p1 p2 p3 r0 r1 r2 r3
  replace HD1n := hd ((hb.block _ (blk_lt HD1n.out)).trans HD1n.out)
  replace HD2n := hd ((hb.block _ (blk_lt HD2n.out)).trans HD2n.out)
  replace O1 := hd (own_bel O1.out hb)
  replace O2 := hd (own_bel O2.out hb)
  replace O3 := hd (own_bel O3.out hb)
  replace HYn := hd (HYn.out.trans (hb.mono HYn.out.size))
  clear hb
  have hx1' := (HYn.out.block _ (blk_lt HF.out)).trans HF.out
  have p0 := blk_cell hx1' 0
  have p1 := blk_cell hx1' 1
  have p2 := blk_cell hx1' 2
  have p3 := blk_cell hx1' 3
  have r0 := blk_cell HD2n.out 0
  have r1 := blk_cell HD2n.out 1
  have r2 := blk_cell HD2n.out 2
  have r3 := blk_cell HD2n.out 3
  simp at p0 p1 p2 p3 r0 r1 r2 r3
  clear hx1'
  go_wp2_with fail
  refine (told_bad x3 ⟨#[]⟩ 0 none none 0 0 0 0 _ hx3).mono ?_
  rintro e a3 ⟨rfl, hb⟩
  clear p0 p1 p2 p3 r0 r1 r2 r3
  replace HD1n := hd ((hb.block _ (blk_lt HD1n.out)).trans HD1n.out)
  replace HD2n := hd ((hb.block _ (blk_lt HD2n.out)).trans HD2n.out)
  replace O1 := hd (own_bel O1.out hb)
  replace O2 := hd (own_bel O2.out hb)
  replace O3 := hd (own_bel O3.out hb)
  replace HYn := hd (HYn.out.trans (hb.mono HYn.out.size))
  clear hb
  go_wp2_with fail
  refine (sameSpans_any _ _ [] [] _ (Rd.nil _ _) (Rd.nil _ _)).mono ?_
  rw [sm_spans]
  rintro e a4 ⟨rfl, hb⟩
  have HBE := hd (HB.out.trans ((HYn.out.trans (hb.mono HYn.out.size)).mono HB.out.size))
  clear hb
  go_wp2_with fail
  go_returns
  exact ⟨rfl, HBE.out⟩

set_option maxRecDepth 1000000 in
set_option maxHeartbeats 16000000 in
theorem cleans_ft (HA : Hid Awake) (nm : ByteArray) (st n : Int) (A A2 A3 : Option Addr) (c c2 c3 : Nat) (bs : List Nat) (gs : List (Int × Int)) (l : List Ru) (FB : List Nat) (FG FF : List (Int × Int)) (E EU x1 x3 : Int) (w : World)
    (HL : Hid (Rd w w.heap.size (.slice A bs.length c) bs.length (flc bs))) (HG : Hid (Rd w w.heap.size (.slice A2 gs.length c2) gs.length (spc gs))) (HU : Hid (Rd w w.heap.size (.slice A3 l.length c3) l.length (ruc l))) (FL : Hid (Full (.slice A bs.length c))) (FG' : Hid (Full (.slice A2 gs.length c2)))
    (S1 : Hid (shortR nm.size bs.length gs.length = true)) (S2 : Hid (shortRu l = true)) (HN : Hid (bs.length ≤ 100000 ∧ gs.length ≤ 100000 ∧ l.length ≤ 100000))
    (CR : Hid (∀ (W : World) (lv gv : Value), Rd W W.heap.size lv bs.length (flc bs) → Rd W W.heap.size gv gs.length (spc gs) → Calls Tryz.prog 15 #[.agg #[.string nm, .int .i64 st, lv, gv]] W fun e w' => e = .returned (.int .i64 E) ∧ Below W.heap.size W w'))
    (CU : Hid (∀ (W : World) (rv : Value), Rd W W.heap.size rv l.length (ruc l) → Calls Tryz.prog 17 #[rv] W fun e w' => e = .returned (.int .i64 EU) ∧ Below W.heap.size W w'))
    (H1 : Hid (fst0 [E, EU] = x1)) (h1 : (x1 == 0) = false) (H3 : Hid (fst0 [E, rng n 0 4096] = x3)) (h3 : (x3 == 0) = true)
    (GH : Hid (∀ (W : World) (lv gv rv : Value), Rd W W.heap.size lv bs.length (flc bs) → Rd W W.heap.size gv gs.length (spc gs) → Rd W W.heap.size rv l.length (ruc l) → Calls Tryz.prog 10 #[.agg #[.string nm, .int .i64 st, lv, gv], rv] W (GotR [] x1 W)))
    (GC : Hid (∀ (W : World) (lv gv rv : Value), Rd W W.heap.size lv bs.length (flc bs) → Rd W W.heap.size gv gs.length (spc gs) → Rd W W.heap.size rv l.length (ruc l) → Calls Tryz.prog 13 #[.agg #[.string nm, .int .i64 st, lv, gv], rv] W fun e w' => e = .returned (.tuple #[.agg #[.string ⟨#[]⟩, .int .i64 0, .slice none 0 0, .slice none 0 0], .int .i64 x1]) ∧ Below W.heap.size W w')) (hx1 : (x1 != 0) = true)
    (GF : Hid (∀ (W : World) (lv gv : Value), Rd W W.heap.size lv bs.length (flc bs) → Rd W W.heap.size gv gs.length (spc gs) → Calls Tryz.prog 14 #[.agg #[.string nm, .int .i64 st, lv, gv], .int .i64 n] W (GotF nm st FB FG FF W)))
    (RF : Hid (∀ (W : World), Rd W W.heap.size (.slice A bs.length c) bs.length (flc bs) → Rd W W.heap.size (.slice A2 gs.length c2) gs.length (spc gs) → Calls Tryz.prog 21 #[.agg #[.string nm, .int .i64 st, .slice A bs.length c, .slice A2 gs.length c2], .int .i64 n] W (OwnsRF W.heap.size nm st FB FG FF W)))
    (HLF : Hid (sameF feqL 0 FB FB = true)) :
    Calls Tryz.prog 3 #[.agg #[.string nm, .int .i64 st, .slice A bs.length c, .slice A2 gs.length c2], .slice A3 l.length c3, .int .i64 n] w fun e w' => e = .returned (.bool true) ∧ Below w.heap.size w w' := by
  obtain rfl : x3 = 0 := by simpa using h3
  have hc4 : bs.length ≤ c ∧ c ≤ 9223372036854775807 := by obtain ⟨A', c', e, h1, h2, -⟩ := HL.out; cases e; unfold maxLen at h2; omega
  obtain ⟨hc5, hc6⟩ := hc4
  have hb1 := (Below.refl w.heap.size w).alloc (Nat.le_refl _) (Obj.cells #[.string nm, .int .i64 st, .slice A bs.length c, .slice A2 gs.length c2] 25)
  have HQ := hd (blk_new w #[.string nm, .int .i64 st, .slice A bs.length c, .slice A2 gs.length c2] 25)
  have HB := hd hb1
  have RL := hd ((HL.out.below hb1 (Nat.le_refl _)).mono hb1.size)
  have RG := hd ((HG.out.below hb1 (Nat.le_refl _)).mono hb1.size)
  have RU := hd ((HU.out.below hb1 (Nat.le_refl _)).mono hb1.size)
  clear hb1
  go_enter Tryz.func3, Tryz.ntmps3
  go_wp2_with fail
  generalize w.alloc (Obj.cells #[.string nm, .int .i64 st, .slice A bs.length c, .slice A2 gs.length c2] 25) = W1 at *
  refine (HA.out _).mono ?_
  rintro e z0 ⟨rfl, hb⟩
  replace HQ := hd ((hb.block _ (blk_lt HQ.out)).trans HQ.out)
  replace HB := hd (HB.out.trans (hb.mono HB.out.size))
  replace RL := hd ((RL.out.below hb (Nat.le_refl _)).mono hb.size)
  replace RG := hd ((RG.out.below hb (Nat.le_refl _)).mono hb.size)
  replace RU := hd ((RU.out.below hb (Nat.le_refl _)).mono hb.size)
  clear hb
  have k0 := blk_cell HQ.out 0
  have k1 := blk_cell HQ.out 1
  have k2 := blk_cell HQ.out 2
  have k3 := blk_cell HQ.out 3
  simp at k0 k1 k2 k3
  go_wp2_with fail
  refine (short_any nm st A A2 bs.length c gs.length c2 _).mono ?_
  rw [S1.out]
  rintro e z1 ⟨rfl, hb⟩
  replace HQ := hd ((hb.block _ (blk_lt HQ.out)).trans HQ.out)
  replace HB := hd (HB.out.trans (hb.mono HB.out.size))
  replace RL := hd ((RL.out.below hb (Nat.le_refl _)).mono hb.size)
  replace RG := hd ((RG.out.below hb (Nat.le_refl _)).mono hb.size)
  replace RU := hd ((RU.out.below hb (Nat.le_refl _)).mono hb.size)
  clear hb
  clear k0 k1 k2 k3
  go_wp2_with fail
  refine (shortRules_any _ l _ RU.out).mono ?_
  rw [S2.out]
  rintro e z2 ⟨rfl, rfl⟩
  have k0 := blk_cell HQ.out 0
  have k1 := blk_cell HQ.out 1
  have k2 := blk_cell HQ.out 2
  have k3 := blk_cell HQ.out 3
  simp at k0 k1 k2 k3
  go_wp2_with fail
  refine (lawRecord_any nm st _ _ bs gs _ RL.out RG.out FL.out FG'.out HN.out.1 HN.out.2.1).mono ?_
  rintro e z3 ⟨u1, u2, rfl, hu1, hu2, -, -, hb⟩
  have U1 := hd hu1
  have U2 := hd hu2
  clear hu1 hu2
  replace HQ := hd ((hb.block _ (blk_lt HQ.out)).trans HQ.out)
  replace HB := hd (HB.out.trans (hb.mono HB.out.size))
  replace RL := hd ((RL.out.below hb (Nat.le_refl _)).mono hb.size)
  replace RG := hd ((RG.out.below hb (Nat.le_refl _)).mono hb.size)
  replace RU := hd ((RU.out.below hb (Nat.le_refl _)).mono hb.size)
  clear hb
  clear k0 k1 k2 k3
  go_wp2_with fail
  refine (lawRules_any _ l _ RU.out HN.out.2.2).mono ?_
  rintro e z4 ⟨u3, rfl, hu3, hb⟩
  have U3 := hd (rd_of_own hu3)
  clear hu3
  replace HQ := hd ((hb.block _ (blk_lt HQ.out)).trans HQ.out)
  replace HB := hd (HB.out.trans (hb.mono HB.out.size))
  replace RL := hd ((RL.out.below hb (Nat.le_refl _)).mono hb.size)
  replace RG := hd ((RG.out.below hb (Nat.le_refl _)).mono hb.size)
  replace RU := hd ((RU.out.below hb (Nat.le_refl _)).mono hb.size)
  replace U1 := hd ((U1.out.below hb (Nat.le_refl _)).mono hb.size)
  replace U2 := hd ((U2.out.below hb (Nat.le_refl _)).mono hb.size)
  clear hb
  go_wp2_with fail
  refine (GH.out _ _ _ _ U1.out U2.out U3.out).mono ?_
  rintro e z5 ⟨vx, rfl, hv, hb⟩
  have RX := hd hv
  clear hv U1 U2 U3
  replace HQ := hd ((hb.block _ (blk_lt HQ.out)).trans HQ.out)
  replace HB := hd (HB.out.trans (hb.mono HB.out.size))
  replace RL := hd ((RL.out.below hb (Nat.le_refl _)).mono hb.size)
  replace RG := hd ((RG.out.below hb (Nat.le_refl _)).mono hb.size)
  replace RU := hd ((RU.out.below hb (Nat.le_refl _)).mono hb.size)
  clear hb
  have k0 := blk_cell HQ.out 0
  have k1 := blk_cell HQ.out 1
  have k2 := blk_cell HQ.out 2
  have k3 := blk_cell HQ.out 3
  simp at k0 k1 k2 k3
  go_wp2_with fail
  refine (lawRecord_any nm st _ _ bs gs _ RL.out RG.out FL.out FG'.out HN.out.1 HN.out.2.1).mono ?_
  rintro e z6 ⟨u1, u2, rfl, hu1, hu2, -, -, hb⟩
  have U1 := hd hu1
  have U2 := hd hu2
  clear hu1 hu2
  replace HQ := hd ((hb.block _ (blk_lt HQ.out)).trans HQ.out)
  replace HB := hd (HB.out.trans (hb.mono HB.out.size))
  replace RL := hd ((RL.out.below hb (Nat.le_refl _)).mono hb.size)
  replace RG := hd ((RG.out.below hb (Nat.le_refl _)).mono hb.size)
  replace RU := hd ((RU.out.below hb (Nat.le_refl _)).mono hb.size)
  replace RX := hd ((RX.out.below hb (Nat.le_refl _)).mono hb.size)
  clear hb
  clear k0 k1 k2 k3
  go_wp2_with fail
  refine (lawRules_any _ l _ RU.out HN.out.2.2).mono ?_
  rintro e z7 ⟨u3, rfl, hu3, hb⟩
  have U3 := hd (rd_of_own hu3)
  clear hu3
  replace HQ := hd ((hb.block _ (blk_lt HQ.out)).trans HQ.out)
  replace HB := hd (HB.out.trans (hb.mono HB.out.size))
  replace RL := hd ((RL.out.below hb (Nat.le_refl _)).mono hb.size)
  replace RG := hd ((RG.out.below hb (Nat.le_refl _)).mono hb.size)
  replace RU := hd ((RU.out.below hb (Nat.le_refl _)).mono hb.size)
  replace RX := hd ((RX.out.below hb (Nat.le_refl _)).mono hb.size)
  replace U1 := hd ((U1.out.below hb (Nat.le_refl _)).mono hb.size)
  replace U2 := hd ((U2.out.below hb (Nat.le_refl _)).mono hb.size)
  clear hb
  go_wp2_with fail
  refine (GC.out _ _ _ _ U1.out U2.out U3.out).mono ?_
  rintro e z8 ⟨rfl, hb⟩
  clear U1 U2 U3
  replace HQ := hd ((hb.block _ (blk_lt HQ.out)).trans HQ.out)
  replace HB := hd (HB.out.trans (hb.mono HB.out.size))
  replace RL := hd ((RL.out.below hb (Nat.le_refl _)).mono hb.size)
  replace RG := hd ((RG.out.below hb (Nat.le_refl _)).mono hb.size)
  replace RU := hd ((RU.out.below hb (Nat.le_refl _)).mono hb.size)
  replace RX := hd ((RX.out.below hb (Nat.le_refl _)).mono hb.size)
  clear hb
  have k0 := blk_cell HQ.out 0
  have k1 := blk_cell HQ.out 1
  have k2 := blk_cell HQ.out 2
  have k3 := blk_cell HQ.out 3
  simp at k0 k1 k2 k3
  have m0 := cell_alloc_old (o := (Obj.cells #[.string ⟨#[]⟩, .int .i64 0, .slice none 0 0, .slice none 0 0] 34)) k0
  have m1 := cell_alloc_old (o := (Obj.cells #[.string ⟨#[]⟩, .int .i64 0, .slice none 0 0, .slice none 0 0] 34)) k1
  have m2 := cell_alloc_old (o := (Obj.cells #[.string ⟨#[]⟩, .int .i64 0, .slice none 0 0, .slice none 0 0] 34)) k2
  have m3 := cell_alloc_old (o := (Obj.cells #[.string ⟨#[]⟩, .int .i64 0, .slice none 0 0, .slice none 0 0] 34)) k3
  go_wp2_with fail
  clear k0 k1 k2 k3
  clear m0 m1 m2 m3
  have hb := (Below.refl z8.heap.size z8).alloc (Nat.le_refl _) (Obj.cells #[.string ⟨#[]⟩, .int .i64 0, .slice none 0 0, .slice none 0 0] 34)
  have HC := hd (blk_new z8 #[.string ⟨#[]⟩, .int .i64 0, .slice none 0 0, .slice none 0 0] 34)
  replace HQ := hd ((hb.block _ (blk_lt HQ.out)).trans HQ.out)
  replace HB := hd (HB.out.trans (hb.mono HB.out.size))
  replace RL := hd ((RL.out.below hb (Nat.le_refl _)).mono hb.size)
  replace RG := hd ((RG.out.below hb (Nat.le_refl _)).mono hb.size)
  replace RU := hd ((RU.out.below hb (Nat.le_refl _)).mono hb.size)
  replace RX := hd ((RX.out.below hb (Nat.le_refl _)).mono hb.size)
  clear hb
  generalize hsHC : z8.heap.size = sHC at *
  generalize z8.alloc (Obj.cells #[.string ⟨#[]⟩, .int .i64 0, .slice none 0 0, .slice none 0 0] 34) = VHC at *
  clear hsHC
  have k0 := blk_cell HQ.out 0
  have k1 := blk_cell HQ.out 1
  have k2 := blk_cell HQ.out 2
  have k3 := blk_cell HQ.out 3
  simp at k0 k1 k2 k3
  refine (lawRecord_any nm st _ _ bs gs _ RL.out RG.out FL.out FG'.out HN.out.1 HN.out.2.1).mono ?_
  rintro e z9 ⟨u1, u2, rfl, hu1, hu2, -, -, hb⟩
  have U1 := hd hu1
  have U2 := hd hu2
  clear hu1 hu2
  replace HQ := hd ((hb.block _ (blk_lt HQ.out)).trans HQ.out)
  replace HC := hd ((hb.block _ (blk_lt HC.out)).trans HC.out)
  replace HB := hd (HB.out.trans (hb.mono HB.out.size))
  replace RL := hd ((RL.out.below hb (Nat.le_refl _)).mono hb.size)
  replace RG := hd ((RG.out.below hb (Nat.le_refl _)).mono hb.size)
  replace RU := hd ((RU.out.below hb (Nat.le_refl _)).mono hb.size)
  replace RX := hd ((RX.out.below hb (Nat.le_refl _)).mono hb.size)
  clear hb
  clear k0 k1 k2 k3
  go_wp2_with fail
  refine (GF.out _ _ _ U1.out U2.out).mono ?_
  rintro e z10 ⟨v4, v5, v6, rfl, hv4, hv5, hv6, hb⟩
  obtain ⟨B4, d4, rfl, -⟩ := id hv4
  obtain ⟨B5, d5, rfl, -⟩ := id hv5
  have RF1 := hd hv4
  have RF2 := hd hv5
  have RF3 := hd hv6
  clear hv4 hv5 hv6 U1 U2
  replace HQ := hd ((hb.block _ (blk_lt HQ.out)).trans HQ.out)
  replace HC := hd ((hb.block _ (blk_lt HC.out)).trans HC.out)
  replace HB := hd (HB.out.trans (hb.mono HB.out.size))
  replace RL := hd ((RL.out.below hb (Nat.le_refl _)).mono hb.size)
  replace RG := hd ((RG.out.below hb (Nat.le_refl _)).mono hb.size)
  replace RU := hd ((RU.out.below hb (Nat.le_refl _)).mono hb.size)
  replace RX := hd ((RX.out.below hb (Nat.le_refl _)).mono hb.size)
  clear hb
  have k0 := blk_cell HQ.out 0
  have k1 := blk_cell HQ.out 1
  have k2 := blk_cell HQ.out 2
  have k3 := blk_cell HQ.out 3
  simp at k0 k1 k2 k3
  have m0 := cell_alloc_old (o := (Obj.cells #[.string nm, .int .i64 st, .slice B4 FB.length d4, .slice B5 FG.length d5] 34)) k0
  have m1 := cell_alloc_old (o := (Obj.cells #[.string nm, .int .i64 st, .slice B4 FB.length d4, .slice B5 FG.length d5] 34)) k1
  have m2 := cell_alloc_old (o := (Obj.cells #[.string nm, .int .i64 st, .slice B4 FB.length d4, .slice B5 FG.length d5] 34)) k2
  have m3 := cell_alloc_old (o := (Obj.cells #[.string nm, .int .i64 st, .slice B4 FB.length d4, .slice B5 FG.length d5] 34)) k3
  go_wp2_with fail
  clear k0 k1 k2 k3
  clear m0 m1 m2 m3
  have hb := (Below.refl z10.heap.size z10).alloc (Nat.le_refl _) (Obj.cells #[.string nm, .int .i64 st, .slice B4 FB.length d4, .slice B5 FG.length d5] 34)
  have HF := hd (blk_new z10 #[.string nm, .int .i64 st, .slice B4 FB.length d4, .slice B5 FG.length d5] 34)
  replace HQ := hd ((hb.block _ (blk_lt HQ.out)).trans HQ.out)
  replace HC := hd ((hb.block _ (blk_lt HC.out)).trans HC.out)
  replace HB := hd (HB.out.trans (hb.mono HB.out.size))
  replace RL := hd ((RL.out.below hb (Nat.le_refl _)).mono hb.size)
  replace RG := hd ((RG.out.below hb (Nat.le_refl _)).mono hb.size)
  replace RU := hd ((RU.out.below hb (Nat.le_refl _)).mono hb.size)
  replace RX := hd ((RX.out.below hb (Nat.le_refl _)).mono hb.size)
  replace RF1 := hd ((RF1.out.below hb (Nat.le_refl _)).mono hb.size)
  replace RF2 := hd ((RF2.out.below hb (Nat.le_refl _)).mono hb.size)
  replace RF3 := hd ((RF3.out.below hb (Nat.le_refl _)).mono hb.size)
  clear hb
  generalize hsHF : z10.heap.size = sHF at *
  generalize z10.alloc (Obj.cells #[.string nm, .int .i64 st, .slice B4 FB.length d4, .slice B5 FG.length d5] 34) = VHF at *
  clear hsHF
  refine (CR.out _ _ _ RL.out RG.out).mono ?_
  rintro e z11 ⟨rfl, hb⟩
  replace HQ := hd ((hb.block _ (blk_lt HQ.out)).trans HQ.out)
  replace HC := hd ((hb.block _ (blk_lt HC.out)).trans HC.out)
  replace HF := hd ((hb.block _ (blk_lt HF.out)).trans HF.out)
  replace HB := hd (HB.out.trans (hb.mono HB.out.size))
  replace RL := hd ((RL.out.below hb (Nat.le_refl _)).mono hb.size)
  replace RG := hd ((RG.out.below hb (Nat.le_refl _)).mono hb.size)
  replace RU := hd ((RU.out.below hb (Nat.le_refl _)).mono hb.size)
  replace RX := hd ((RX.out.below hb (Nat.le_refl _)).mono hb.size)
  replace RF1 := hd ((RF1.out.below hb (Nat.le_refl _)).mono hb.size)
  replace RF2 := hd ((RF2.out.below hb (Nat.le_refl _)).mono hb.size)
  replace RF3 := hd ((RF3.out.below hb (Nat.le_refl _)).mono hb.size)
  clear hb
  go_wp2_with fail
  refine (CU.out _ _ RU.out).mono ?_
  rintro e z12 ⟨rfl, hb⟩
  replace HQ := hd ((hb.block _ (blk_lt HQ.out)).trans HQ.out)
  replace HC := hd ((hb.block _ (blk_lt HC.out)).trans HC.out)
  replace HF := hd ((hb.block _ (blk_lt HF.out)).trans HF.out)
  replace HB := hd (HB.out.trans (hb.mono HB.out.size))
  replace RL := hd ((RL.out.below hb (Nat.le_refl _)).mono hb.size)
  replace RG := hd ((RG.out.below hb (Nat.le_refl _)).mono hb.size)
  replace RU := hd ((RU.out.below hb (Nat.le_refl _)).mono hb.size)
  replace RX := hd ((RX.out.below hb (Nat.le_refl _)).mono hb.size)
  replace RF1 := hd ((RF1.out.below hb (Nat.le_refl _)).mono hb.size)
  replace RF2 := hd ((RF2.out.below hb (Nat.le_refl _)).mono hb.size)
  replace RF3 := hd ((RF3.out.below hb (Nat.le_refl _)).mono hb.size)
  clear hb
  go_wp2_with fail
  have hb := (Below.refl z12.heap.size z12).alloc (Nat.le_refl _) (Obj.cells #[.int .i64 E, .int .i64 (EU)] 3)
  have hR := hd (Rd.new z12 #[.int .i64 E, .int .i64 (EU)] 3 2 ([E, EU].map (Value.int .i64)) rfl (by decide))
  replace HQ := hd ((hb.block _ (blk_lt HQ.out)).trans HQ.out)
  replace HC := hd ((hb.block _ (blk_lt HC.out)).trans HC.out)
  replace HF := hd ((hb.block _ (blk_lt HF.out)).trans HF.out)
  replace HB := hd (HB.out.trans (hb.mono HB.out.size))
  replace RL := hd ((RL.out.below hb (Nat.le_refl _)).mono hb.size)
  replace RG := hd ((RG.out.below hb (Nat.le_refl _)).mono hb.size)
  replace RU := hd ((RU.out.below hb (Nat.le_refl _)).mono hb.size)
  replace RX := hd ((RX.out.below hb (Nat.le_refl _)).mono hb.size)
  replace RF1 := hd ((RF1.out.below hb (Nat.le_refl _)).mono hb.size)
  replace RF2 := hd ((RF2.out.below hb (Nat.le_refl _)).mono hb.size)
  replace RF3 := hd ((RF3.out.below hb (Nat.le_refl _)).mono hb.size)
  clear hb
  generalize z12.alloc (Obj.cells #[.int .i64 E, .int .i64 (EU)] 3) = Y0 at *
  refine (lawFirst_any _ [E, EU] _ hR.out).mono ?_
  rw [H1.out]
  rintro e w' ⟨rfl, rfl⟩
  clear hR
  go_wp2_with fail
  refine (refRange_any n 0 4096 _).mono ?_
  rintro e z13 ⟨rfl, hb⟩
  replace HQ := hd ((hb.block _ (blk_lt HQ.out)).trans HQ.out)
  replace HC := hd ((hb.block _ (blk_lt HC.out)).trans HC.out)
  replace HF := hd ((hb.block _ (blk_lt HF.out)).trans HF.out)
  replace HB := hd (HB.out.trans (hb.mono HB.out.size))
  replace RL := hd ((RL.out.below hb (Nat.le_refl _)).mono hb.size)
  replace RG := hd ((RG.out.below hb (Nat.le_refl _)).mono hb.size)
  replace RU := hd ((RU.out.below hb (Nat.le_refl _)).mono hb.size)
  replace RX := hd ((RX.out.below hb (Nat.le_refl _)).mono hb.size)
  replace RF1 := hd ((RF1.out.below hb (Nat.le_refl _)).mono hb.size)
  replace RF2 := hd ((RF2.out.below hb (Nat.le_refl _)).mono hb.size)
  replace RF3 := hd ((RF3.out.below hb (Nat.le_refl _)).mono hb.size)
  clear hb
  go_wp2_with fail
  have hb := (Below.refl z13.heap.size z13).alloc (Nat.le_refl _) (Obj.cells #[.int .i64 E, .int .i64 (rng n 0 4096)] 3)
  have hR := hd (Rd.new z13 #[.int .i64 E, .int .i64 (rng n 0 4096)] 3 2 ([E, rng n 0 4096].map (Value.int .i64)) rfl (by decide))
  replace HQ := hd ((hb.block _ (blk_lt HQ.out)).trans HQ.out)
  replace HC := hd ((hb.block _ (blk_lt HC.out)).trans HC.out)
  replace HF := hd ((hb.block _ (blk_lt HF.out)).trans HF.out)
  replace HB := hd (HB.out.trans (hb.mono HB.out.size))
  replace RL := hd ((RL.out.below hb (Nat.le_refl _)).mono hb.size)
  replace RG := hd ((RG.out.below hb (Nat.le_refl _)).mono hb.size)
  replace RU := hd ((RU.out.below hb (Nat.le_refl _)).mono hb.size)
  replace RX := hd ((RX.out.below hb (Nat.le_refl _)).mono hb.size)
  replace RF1 := hd ((RF1.out.below hb (Nat.le_refl _)).mono hb.size)
  replace RF2 := hd ((RF2.out.below hb (Nat.le_refl _)).mono hb.size)
  replace RF3 := hd ((RF3.out.below hb (Nat.le_refl _)).mono hb.size)
  clear hb
  generalize z13.alloc (Obj.cells #[.int .i64 E, .int .i64 (rng n 0 4096)] 3) = Y1 at *
  refine (lawFirst_any _ [E, rng n 0 4096] _ hR.out).mono ?_
  rw [H3.out]
  rintro e w' ⟨rfl, rfl⟩
  clear hR
  have k0 := blk_cell HQ.out 0
  have k1 := blk_cell HQ.out 1
  have k2 := blk_cell HQ.out 2
  have k3 := blk_cell HQ.out 3
  simp at k0 k1 k2 k3
  have m0 := cell_alloc_old (o := (Obj.cells #[.string ⟨#[]⟩, .int .i64 0, .slice none 0 0, .slice none 0 0] 25)) (cell_alloc_old (o := (Obj.cells #[.string ⟨#[]⟩, .int .i64 0, .slice none 0 0, .slice none 0 0] 25)) k0)
  have m1 := cell_alloc_old (o := (Obj.cells #[.string ⟨#[]⟩, .int .i64 0, .slice none 0 0, .slice none 0 0] 25)) (cell_alloc_old (o := (Obj.cells #[.string ⟨#[]⟩, .int .i64 0, .slice none 0 0, .slice none 0 0] 25)) k1)
  have m2 := cell_alloc_old (o := (Obj.cells #[.string ⟨#[]⟩, .int .i64 0, .slice none 0 0, .slice none 0 0] 25)) (cell_alloc_old (o := (Obj.cells #[.string ⟨#[]⟩, .int .i64 0, .slice none 0 0, .slice none 0 0] 25)) k2)
  have m3 := cell_alloc_old (o := (Obj.cells #[.string ⟨#[]⟩, .int .i64 0, .slice none 0 0, .slice none 0 0] 25)) (cell_alloc_old (o := (Obj.cells #[.string ⟨#[]⟩, .int .i64 0, .slice none 0 0, .slice none 0 0] 25)) k3)
  go_wp2_with fail
  clear k0 k1 k2 k3
  clear m0 m1 m2 m3
  have hb0 := ((Below.refl Y1.heap.size Y1).alloc (Nat.le_refl _) (Obj.cells #[.string ⟨#[]⟩, .int .i64 0, .slice none 0 0, .slice none 0 0] 25)).alloc (by simp) (Obj.cells #[.string ⟨#[]⟩, .int .i64 0, .slice none 0 0, .slice none 0 0] 25)
  have HY := hd hb0
  have HD1 := hd (show ((Y1.alloc (Obj.cells #[.string ⟨#[]⟩, .int .i64 0, .slice none 0 0, .slice none 0 0] 25)).alloc (Obj.cells #[.string ⟨#[]⟩, .int .i64 0, .slice none 0 0, .slice none 0 0] 25)).heap[Y1.heap.size]? = some (.cells #[.string ⟨#[]⟩, .int .i64 0, .slice none 0 0, .slice none 0 0] 25 (0, 0)) from (Below.heap_alloc _ _ _ (by simp)).trans (blk_new _ _ _))
  have HD2 := hd (show ((Y1.alloc (Obj.cells #[.string ⟨#[]⟩, .int .i64 0, .slice none 0 0, .slice none 0 0] 25)).alloc (Obj.cells #[.string ⟨#[]⟩, .int .i64 0, .slice none 0 0, .slice none 0 0] 25)).heap[Y1.heap.size + 1]? = some (.cells #[.string ⟨#[]⟩, .int .i64 0, .slice none 0 0, .slice none 0 0] 25 (0, 0)) from by have h := blk_new (Y1.alloc (Obj.cells #[.string ⟨#[]⟩, .int .i64 0, .slice none 0 0, .slice none 0 0] 25)) #[.string ⟨#[]⟩, .int .i64 0, .slice none 0 0, .slice none 0 0] 25; rw [World.size_alloc] at h; exact h)
  have HYS := hd (show ((Y1.alloc (Obj.cells #[.string ⟨#[]⟩, .int .i64 0, .slice none 0 0, .slice none 0 0] 25)).alloc (Obj.cells #[.string ⟨#[]⟩, .int .i64 0, .slice none 0 0, .slice none 0 0] 25)).heap.size = Y1.heap.size + 2 by simp)
  clear hb0
  have hqd : Y1.heap.size ≠ w.heap.size := by have := blk_lt HQ.out; omega
  have hqd' := hqd.symm
  generalize (Y1.alloc (Obj.cells #[.string ⟨#[]⟩, .int .i64 0, .slice none 0 0, .slice none 0 0] 25)).alloc (Obj.cells #[.string ⟨#[]⟩, .int .i64 0, .slice none 0 0, .slice none 0 0] 25) = V5 at *
  have hqk := (HY.out.block _ (blk_lt HQ.out)).trans HQ.out
  have k0 := blk_cell hqk 0
  have k1 := blk_cell hqk 1
  have k2 := blk_cell hqk 2
  have k3 := blk_cell hqk 3
  simp at k0 k1 k2 k3
  clear hqk
  refine (RF.out _ ((RL.out.below HY.out (Nat.le_refl _)).mono HY.out.size) ((RG.out.below HY.out (Nat.le_refl _)).mono HY.out.size)).mono ?_
  rintro e y3 ⟨r4, r5, r6, rfl, hv4, hv5, hv6, hb⟩
  obtain ⟨B9, d9, hr4, -⟩ := own_form hv4
  obtain ⟨B10, d10, hr5, -⟩ := own_form hv5
  subst hr4
  subst hr5
  clear k0 k1 k2 k3
  have hgt : Y1.heap.size + 1 < V5.heap.size := blk_lt HD2.out
  replace HD1 := hd ((hb.block _ (blk_lt HD1.out)).trans HD1.out)
  replace HD2 := hd ((hb.block _ (blk_lt HD2.out)).trans HD2.out)
  replace HY := hd (HY.out.trans (hb.mono HY.out.size))
  clear hb
  have O4 := hd hv4
  have O5 := hd hv5
  have O6 := hd hv6
  clear hv4 hv5 hv6
  have c0 := blk_cell HD2.out 0
  have c1' := blk_cell HD2.out 1
  have c2' := blk_cell HD2.out 2
  have c3' := blk_cell HD2.out 3
  simp at c0 c1' c2' c3'
  have f0 := blk_frozen HD2.out 0
  have f1 := blk_frozen HD2.out 1
  have f2 := blk_frozen HD2.out 2
  have f3 := blk_frozen HD2.out 3
  go_wp2_with fail
  clear c0 c1' c2' c3' f0 f1 f2 f3
  change Calls _ _ _ (set4 y3 (Y1.heap.size + 1) (.string nm) (.int .i64 st) (.slice B9 FB.length d9) (.slice B10 FG.length d10)) _
  replace O4 := hd (own_set4 (R := Y1.heap.size + 1) (a := .string nm) (b := .int .i64 st) (c := .slice B9 FB.length d9) (d := .slice B10 FG.length d10) O4.out hgt)
  replace O5 := hd (own_set4 (R := Y1.heap.size + 1) (a := .string nm) (b := .int .i64 st) (c := .slice B9 FB.length d9) (d := .slice B10 FG.length d10) O5.out hgt)
  replace O6 := hd (own_set4 (R := Y1.heap.size + 1) (a := .string nm) (b := .int .i64 st) (c := .slice B9 FB.length d9) (d := .slice B10 FG.length d10) O6.out hgt)
  have HD1m := hd ((set4_other y3 (R := Y1.heap.size + 1) (D := Y1.heap.size) (by omega) (.string nm) (.int .i64 st) (.slice B9 FB.length d9) (.slice B10 FG.length d10)).trans HD1.out)
  have HD2m := hd (set4_blk HD2.out (.string nm) (.int .i64 st) (.slice B9 FB.length d9) (.slice B10 FG.length d10))
  have HYm := hd (set4_below HY.out (R := Y1.heap.size + 1) (by omega) (.string nm) (.int .i64 st) (.slice B9 FB.length d9) (.slice B10 FG.length d10))
  clear HY HD1 HD2 hgt
  generalize set4 y3 (Y1.heap.size + 1) (.string nm) (.int .i64 st) (.slice B9 FB.length d9) (.slice B10 FG.length d10) = Z2 at *
  refine (sameInts_any _ _ [] [] _ ((RX.out.below HYm.out (Nat.le_refl _)).mono HYm.out.size) (Rd.nil _ _)).mono ?_
  rw [sameF_refl]
  rintro e a1 ⟨rfl, hb⟩
  replace HD1m := hd ((hb.block _ (blk_lt HD1m.out)).trans HD1m.out)
  replace HD2m := hd ((hb.block _ (blk_lt HD2m.out)).trans HD2m.out)
  replace O4 := hd (own_bel O4.out hb)
  replace O5 := hd (own_bel O5.out hb)
  replace O6 := hd (own_bel O6.out hb)
  replace HYm := hd (HYm.out.trans (hb.mono HYm.out.size))
  clear hb
  have hx1' := (HYm.out.block _ (blk_lt HC.out)).trans HC.out
  have p0 := blk_cell hx1' 0
  have p1 := blk_cell hx1' 1
  have p2 := blk_cell hx1' 2
  have p3 := blk_cell hx1' 3
  have r0 := blk_cell HD1m.out 0
  have r1 := blk_cell HD1m.out 1
  have r2 := blk_cell HD1m.out 2
  have r3 := blk_cell HD1m.out 3
  simp at p0 p1 p2 p3 r0 r1 r2 r3
  clear hx1'
  go_wp2_with fail
  refine (told_bad x1 ⟨#[]⟩ 0 none none 0 0 0 0 _ hx1).mono ?_
  rintro e a2 ⟨rfl, hb⟩
  clear p0 p1 p2 p3 r0 r1 r2 r3
  replace HD1m := hd ((hb.block _ (blk_lt HD1m.out)).trans HD1m.out)
  replace HD2m := hd ((hb.block _ (blk_lt HD2m.out)).trans HD2m.out)
  replace O4 := hd (own_bel O4.out hb)
  replace O5 := hd (own_bel O5.out hb)
  replace O6 := hd (own_bel O6.out hb)
  replace HYm := hd (HYm.out.trans (hb.mono HYm.out.size))
  clear hb
  have hx1' := (HYm.out.block _ (blk_lt HF.out)).trans HF.out
  have p0 := blk_cell hx1' 0
  have p1 := blk_cell hx1' 1
  have p2 := blk_cell hx1' 2
  have p3 := blk_cell hx1' 3
  have r0 := blk_cell HD2m.out 0
  have r1 := blk_cell HD2m.out 1
  have r2 := blk_cell HD2m.out 2
  have r3 := blk_cell HD2m.out 3
  simp at p0 p1 p2 p3 r0 r1 r2 r3
  clear hx1'
  go_wp2_with fail
  refine (told_ok nm st _ _ _ _ FB FB FG FG _ ((RF1.out.below HYm.out (Nat.le_refl _)).mono HYm.out.size) ((RF2.out.below HYm.out (Nat.le_refl _)).mono HYm.out.size) (rd_of_own O4.out) (rd_of_own O5.out) HLF.out (sm_spans FG)).mono ?_
  rintro e a3 ⟨rfl, hb⟩
  clear p0 p1 p2 p3 r0 r1 r2 r3
  replace HD1m := hd ((hb.block _ (blk_lt HD1m.out)).trans HD1m.out)
  replace HD2m := hd ((hb.block _ (blk_lt HD2m.out)).trans HD2m.out)
  replace O4 := hd (own_bel O4.out hb)
  replace O5 := hd (own_bel O5.out hb)
  replace O6 := hd (own_bel O6.out hb)
  replace HYm := hd (HYm.out.trans (hb.mono HYm.out.size))
  clear hb
  go_wp2_with fail
  refine (sameSpans_any _ _ FF FF _ ((RF3.out.below HYm.out (Nat.le_refl _)).mono HYm.out.size) (rd_of_own O6.out)).mono ?_
  rw [sm_spans]
  rintro e a4 ⟨rfl, hb⟩
  have HBE := hd (HB.out.trans ((HYm.out.trans (hb.mono HYm.out.size)).mono HB.out.size))
  clear hb
  go_wp2_with fail
  go_returns
  exact ⟨rfl, HBE.out⟩

set_option maxRecDepth 1000000 in
set_option maxHeartbeats 16000000 in
theorem cleans_ff (HA : Hid Awake) (nm : ByteArray) (st n : Int) (A A2 A3 : Option Addr) (c c2 c3 : Nat) (bs : List Nat) (gs : List (Int × Int)) (l : List Ru) (E EU x1 x3 : Int) (w : World)
    (HL : Hid (Rd w w.heap.size (.slice A bs.length c) bs.length (flc bs))) (HG : Hid (Rd w w.heap.size (.slice A2 gs.length c2) gs.length (spc gs))) (HU : Hid (Rd w w.heap.size (.slice A3 l.length c3) l.length (ruc l))) (FL : Hid (Full (.slice A bs.length c))) (FG' : Hid (Full (.slice A2 gs.length c2)))
    (S1 : Hid (shortR nm.size bs.length gs.length = true)) (S2 : Hid (shortRu l = true)) (HN : Hid (bs.length ≤ 100000 ∧ gs.length ≤ 100000 ∧ l.length ≤ 100000))
    (CR : Hid (∀ (W : World) (lv gv : Value), Rd W W.heap.size lv bs.length (flc bs) → Rd W W.heap.size gv gs.length (spc gs) → Calls Tryz.prog 15 #[.agg #[.string nm, .int .i64 st, lv, gv]] W fun e w' => e = .returned (.int .i64 E) ∧ Below W.heap.size W w'))
    (CU : Hid (∀ (W : World) (rv : Value), Rd W W.heap.size rv l.length (ruc l) → Calls Tryz.prog 17 #[rv] W fun e w' => e = .returned (.int .i64 EU) ∧ Below W.heap.size W w'))
    (H1 : Hid (fst0 [E, EU] = x1)) (h1 : (x1 == 0) = false) (H3 : Hid (fst0 [E, rng n 0 4096] = x3)) (h3 : (x3 == 0) = false)
    (GH : Hid (∀ (W : World) (lv gv rv : Value), Rd W W.heap.size lv bs.length (flc bs) → Rd W W.heap.size gv gs.length (spc gs) → Rd W W.heap.size rv l.length (ruc l) → Calls Tryz.prog 10 #[.agg #[.string nm, .int .i64 st, lv, gv], rv] W (GotR [] x1 W)))
    (GC : Hid (∀ (W : World) (lv gv rv : Value), Rd W W.heap.size lv bs.length (flc bs) → Rd W W.heap.size gv gs.length (spc gs) → Rd W W.heap.size rv l.length (ruc l) → Calls Tryz.prog 13 #[.agg #[.string nm, .int .i64 st, lv, gv], rv] W fun e w' => e = .returned (.tuple #[.agg #[.string ⟨#[]⟩, .int .i64 0, .slice none 0 0, .slice none 0 0], .int .i64 x1]) ∧ Below W.heap.size W w')) (hx1 : (x1 != 0) = true)
    (GF : Hid (∀ (W : World) (lv gv : Value), Rd W W.heap.size lv bs.length (flc bs) → Rd W W.heap.size gv gs.length (spc gs) → Calls Tryz.prog 14 #[.agg #[.string nm, .int .i64 st, lv, gv], .int .i64 n] W fun e w' => e = .returned (.tuple #[.agg #[.string ⟨#[]⟩, .int .i64 0, .slice none 0 0, .slice none 0 0], .slice none 0 0, .int .i64 x3]) ∧ Below W.heap.size W w')) (hx3 : (x3 != 0) = true) :
    Calls Tryz.prog 3 #[.agg #[.string nm, .int .i64 st, .slice A bs.length c, .slice A2 gs.length c2], .slice A3 l.length c3, .int .i64 n] w fun e w' => e = .returned (.bool true) ∧ Below w.heap.size w w' := by
  have hc4 : bs.length ≤ c ∧ c ≤ 9223372036854775807 := by obtain ⟨A', c', e, h1, h2, -⟩ := HL.out; cases e; unfold maxLen at h2; omega
  obtain ⟨hc5, hc6⟩ := hc4
  have hb1 := (Below.refl w.heap.size w).alloc (Nat.le_refl _) (Obj.cells #[.string nm, .int .i64 st, .slice A bs.length c, .slice A2 gs.length c2] 25)
  have HQ := hd (blk_new w #[.string nm, .int .i64 st, .slice A bs.length c, .slice A2 gs.length c2] 25)
  have HB := hd hb1
  have RL := hd ((HL.out.below hb1 (Nat.le_refl _)).mono hb1.size)
  have RG := hd ((HG.out.below hb1 (Nat.le_refl _)).mono hb1.size)
  have RU := hd ((HU.out.below hb1 (Nat.le_refl _)).mono hb1.size)
  clear hb1
  go_enter Tryz.func3, Tryz.ntmps3
  go_wp2_with fail
  generalize w.alloc (Obj.cells #[.string nm, .int .i64 st, .slice A bs.length c, .slice A2 gs.length c2] 25) = W1 at *
  refine (HA.out _).mono ?_
  rintro e z0 ⟨rfl, hb⟩
  replace HQ := hd ((hb.block _ (blk_lt HQ.out)).trans HQ.out)
  replace HB := hd (HB.out.trans (hb.mono HB.out.size))
  replace RL := hd ((RL.out.below hb (Nat.le_refl _)).mono hb.size)
  replace RG := hd ((RG.out.below hb (Nat.le_refl _)).mono hb.size)
  replace RU := hd ((RU.out.below hb (Nat.le_refl _)).mono hb.size)
  clear hb
  have k0 := blk_cell HQ.out 0
  have k1 := blk_cell HQ.out 1
  have k2 := blk_cell HQ.out 2
  have k3 := blk_cell HQ.out 3
  simp at k0 k1 k2 k3
  go_wp2_with fail
  refine (short_any nm st A A2 bs.length c gs.length c2 _).mono ?_
  rw [S1.out]
  rintro e z1 ⟨rfl, hb⟩
  replace HQ := hd ((hb.block _ (blk_lt HQ.out)).trans HQ.out)
  replace HB := hd (HB.out.trans (hb.mono HB.out.size))
  replace RL := hd ((RL.out.below hb (Nat.le_refl _)).mono hb.size)
  replace RG := hd ((RG.out.below hb (Nat.le_refl _)).mono hb.size)
  replace RU := hd ((RU.out.below hb (Nat.le_refl _)).mono hb.size)
  clear hb
  clear k0 k1 k2 k3
  go_wp2_with fail
  refine (shortRules_any _ l _ RU.out).mono ?_
  rw [S2.out]
  rintro e z2 ⟨rfl, rfl⟩
  have k0 := blk_cell HQ.out 0
  have k1 := blk_cell HQ.out 1
  have k2 := blk_cell HQ.out 2
  have k3 := blk_cell HQ.out 3
  simp at k0 k1 k2 k3
  go_wp2_with fail
  refine (lawRecord_any nm st _ _ bs gs _ RL.out RG.out FL.out FG'.out HN.out.1 HN.out.2.1).mono ?_
  rintro e z3 ⟨u1, u2, rfl, hu1, hu2, -, -, hb⟩
  have U1 := hd hu1
  have U2 := hd hu2
  clear hu1 hu2
  replace HQ := hd ((hb.block _ (blk_lt HQ.out)).trans HQ.out)
  replace HB := hd (HB.out.trans (hb.mono HB.out.size))
  replace RL := hd ((RL.out.below hb (Nat.le_refl _)).mono hb.size)
  replace RG := hd ((RG.out.below hb (Nat.le_refl _)).mono hb.size)
  replace RU := hd ((RU.out.below hb (Nat.le_refl _)).mono hb.size)
  clear hb
  clear k0 k1 k2 k3
  go_wp2_with fail
  refine (lawRules_any _ l _ RU.out HN.out.2.2).mono ?_
  rintro e z4 ⟨u3, rfl, hu3, hb⟩
  have U3 := hd (rd_of_own hu3)
  clear hu3
  replace HQ := hd ((hb.block _ (blk_lt HQ.out)).trans HQ.out)
  replace HB := hd (HB.out.trans (hb.mono HB.out.size))
  replace RL := hd ((RL.out.below hb (Nat.le_refl _)).mono hb.size)
  replace RG := hd ((RG.out.below hb (Nat.le_refl _)).mono hb.size)
  replace RU := hd ((RU.out.below hb (Nat.le_refl _)).mono hb.size)
  replace U1 := hd ((U1.out.below hb (Nat.le_refl _)).mono hb.size)
  replace U2 := hd ((U2.out.below hb (Nat.le_refl _)).mono hb.size)
  clear hb
  go_wp2_with fail
  refine (GH.out _ _ _ _ U1.out U2.out U3.out).mono ?_
  rintro e z5 ⟨vx, rfl, hv, hb⟩
  have RX := hd hv
  clear hv U1 U2 U3
  replace HQ := hd ((hb.block _ (blk_lt HQ.out)).trans HQ.out)
  replace HB := hd (HB.out.trans (hb.mono HB.out.size))
  replace RL := hd ((RL.out.below hb (Nat.le_refl _)).mono hb.size)
  replace RG := hd ((RG.out.below hb (Nat.le_refl _)).mono hb.size)
  replace RU := hd ((RU.out.below hb (Nat.le_refl _)).mono hb.size)
  clear hb
  have k0 := blk_cell HQ.out 0
  have k1 := blk_cell HQ.out 1
  have k2 := blk_cell HQ.out 2
  have k3 := blk_cell HQ.out 3
  simp at k0 k1 k2 k3
  go_wp2_with fail
  refine (lawRecord_any nm st _ _ bs gs _ RL.out RG.out FL.out FG'.out HN.out.1 HN.out.2.1).mono ?_
  rintro e z6 ⟨u1, u2, rfl, hu1, hu2, -, -, hb⟩
  have U1 := hd hu1
  have U2 := hd hu2
  clear hu1 hu2
  replace HQ := hd ((hb.block _ (blk_lt HQ.out)).trans HQ.out)
  replace HB := hd (HB.out.trans (hb.mono HB.out.size))
  replace RL := hd ((RL.out.below hb (Nat.le_refl _)).mono hb.size)
  replace RG := hd ((RG.out.below hb (Nat.le_refl _)).mono hb.size)
  replace RU := hd ((RU.out.below hb (Nat.le_refl _)).mono hb.size)
  replace RX := hd ((RX.out.below hb (Nat.le_refl _)).mono hb.size)
  clear hb
  clear k0 k1 k2 k3
  go_wp2_with fail
  refine (lawRules_any _ l _ RU.out HN.out.2.2).mono ?_
  rintro e z7 ⟨u3, rfl, hu3, hb⟩
  have U3 := hd (rd_of_own hu3)
  clear hu3
  replace HQ := hd ((hb.block _ (blk_lt HQ.out)).trans HQ.out)
  replace HB := hd (HB.out.trans (hb.mono HB.out.size))
  replace RL := hd ((RL.out.below hb (Nat.le_refl _)).mono hb.size)
  replace RG := hd ((RG.out.below hb (Nat.le_refl _)).mono hb.size)
  replace RU := hd ((RU.out.below hb (Nat.le_refl _)).mono hb.size)
  replace RX := hd ((RX.out.below hb (Nat.le_refl _)).mono hb.size)
  replace U1 := hd ((U1.out.below hb (Nat.le_refl _)).mono hb.size)
  replace U2 := hd ((U2.out.below hb (Nat.le_refl _)).mono hb.size)
  clear hb
  go_wp2_with fail
  refine (GC.out _ _ _ _ U1.out U2.out U3.out).mono ?_
  rintro e z8 ⟨rfl, hb⟩
  clear U1 U2 U3
  replace HQ := hd ((hb.block _ (blk_lt HQ.out)).trans HQ.out)
  replace HB := hd (HB.out.trans (hb.mono HB.out.size))
  replace RL := hd ((RL.out.below hb (Nat.le_refl _)).mono hb.size)
  replace RG := hd ((RG.out.below hb (Nat.le_refl _)).mono hb.size)
  replace RU := hd ((RU.out.below hb (Nat.le_refl _)).mono hb.size)
  replace RX := hd ((RX.out.below hb (Nat.le_refl _)).mono hb.size)
  clear hb
  have k0 := blk_cell HQ.out 0
  have k1 := blk_cell HQ.out 1
  have k2 := blk_cell HQ.out 2
  have k3 := blk_cell HQ.out 3
  simp at k0 k1 k2 k3
  have m0 := cell_alloc_old (o := (Obj.cells #[.string ⟨#[]⟩, .int .i64 0, .slice none 0 0, .slice none 0 0] 34)) k0
  have m1 := cell_alloc_old (o := (Obj.cells #[.string ⟨#[]⟩, .int .i64 0, .slice none 0 0, .slice none 0 0] 34)) k1
  have m2 := cell_alloc_old (o := (Obj.cells #[.string ⟨#[]⟩, .int .i64 0, .slice none 0 0, .slice none 0 0] 34)) k2
  have m3 := cell_alloc_old (o := (Obj.cells #[.string ⟨#[]⟩, .int .i64 0, .slice none 0 0, .slice none 0 0] 34)) k3
  go_wp2_with fail
  clear k0 k1 k2 k3
  clear m0 m1 m2 m3
  have hb := (Below.refl z8.heap.size z8).alloc (Nat.le_refl _) (Obj.cells #[.string ⟨#[]⟩, .int .i64 0, .slice none 0 0, .slice none 0 0] 34)
  have HC := hd (blk_new z8 #[.string ⟨#[]⟩, .int .i64 0, .slice none 0 0, .slice none 0 0] 34)
  replace HQ := hd ((hb.block _ (blk_lt HQ.out)).trans HQ.out)
  replace HB := hd (HB.out.trans (hb.mono HB.out.size))
  replace RL := hd ((RL.out.below hb (Nat.le_refl _)).mono hb.size)
  replace RG := hd ((RG.out.below hb (Nat.le_refl _)).mono hb.size)
  replace RU := hd ((RU.out.below hb (Nat.le_refl _)).mono hb.size)
  replace RX := hd ((RX.out.below hb (Nat.le_refl _)).mono hb.size)
  clear hb
  generalize hsHC : z8.heap.size = sHC at *
  generalize z8.alloc (Obj.cells #[.string ⟨#[]⟩, .int .i64 0, .slice none 0 0, .slice none 0 0] 34) = VHC at *
  clear hsHC
  have k0 := blk_cell HQ.out 0
  have k1 := blk_cell HQ.out 1
  have k2 := blk_cell HQ.out 2
  have k3 := blk_cell HQ.out 3
  simp at k0 k1 k2 k3
  refine (lawRecord_any nm st _ _ bs gs _ RL.out RG.out FL.out FG'.out HN.out.1 HN.out.2.1).mono ?_
  rintro e z9 ⟨u1, u2, rfl, hu1, hu2, -, -, hb⟩
  have U1 := hd hu1
  have U2 := hd hu2
  clear hu1 hu2
  replace HQ := hd ((hb.block _ (blk_lt HQ.out)).trans HQ.out)
  replace HC := hd ((hb.block _ (blk_lt HC.out)).trans HC.out)
  replace HB := hd (HB.out.trans (hb.mono HB.out.size))
  replace RL := hd ((RL.out.below hb (Nat.le_refl _)).mono hb.size)
  replace RG := hd ((RG.out.below hb (Nat.le_refl _)).mono hb.size)
  replace RU := hd ((RU.out.below hb (Nat.le_refl _)).mono hb.size)
  replace RX := hd ((RX.out.below hb (Nat.le_refl _)).mono hb.size)
  clear hb
  clear k0 k1 k2 k3
  go_wp2_with fail
  refine (GF.out _ _ _ U1.out U2.out).mono ?_
  rintro e z10 ⟨rfl, hb⟩
  clear U1 U2
  replace HQ := hd ((hb.block _ (blk_lt HQ.out)).trans HQ.out)
  replace HC := hd ((hb.block _ (blk_lt HC.out)).trans HC.out)
  replace HB := hd (HB.out.trans (hb.mono HB.out.size))
  replace RL := hd ((RL.out.below hb (Nat.le_refl _)).mono hb.size)
  replace RG := hd ((RG.out.below hb (Nat.le_refl _)).mono hb.size)
  replace RU := hd ((RU.out.below hb (Nat.le_refl _)).mono hb.size)
  replace RX := hd ((RX.out.below hb (Nat.le_refl _)).mono hb.size)
  clear hb
  have k0 := blk_cell HQ.out 0
  have k1 := blk_cell HQ.out 1
  have k2 := blk_cell HQ.out 2
  have k3 := blk_cell HQ.out 3
  simp at k0 k1 k2 k3
  have m0 := cell_alloc_old (o := (Obj.cells #[.string ⟨#[]⟩, .int .i64 0, .slice none 0 0, .slice none 0 0] 34)) k0
  have m1 := cell_alloc_old (o := (Obj.cells #[.string ⟨#[]⟩, .int .i64 0, .slice none 0 0, .slice none 0 0] 34)) k1
  have m2 := cell_alloc_old (o := (Obj.cells #[.string ⟨#[]⟩, .int .i64 0, .slice none 0 0, .slice none 0 0] 34)) k2
  have m3 := cell_alloc_old (o := (Obj.cells #[.string ⟨#[]⟩, .int .i64 0, .slice none 0 0, .slice none 0 0] 34)) k3
  go_wp2_with fail
  clear k0 k1 k2 k3
  clear m0 m1 m2 m3
  have hb := (Below.refl z10.heap.size z10).alloc (Nat.le_refl _) (Obj.cells #[.string ⟨#[]⟩, .int .i64 0, .slice none 0 0, .slice none 0 0] 34)
  have HF := hd (blk_new z10 #[.string ⟨#[]⟩, .int .i64 0, .slice none 0 0, .slice none 0 0] 34)
  replace HQ := hd ((hb.block _ (blk_lt HQ.out)).trans HQ.out)
  replace HC := hd ((hb.block _ (blk_lt HC.out)).trans HC.out)
  replace HB := hd (HB.out.trans (hb.mono HB.out.size))
  replace RL := hd ((RL.out.below hb (Nat.le_refl _)).mono hb.size)
  replace RG := hd ((RG.out.below hb (Nat.le_refl _)).mono hb.size)
  replace RU := hd ((RU.out.below hb (Nat.le_refl _)).mono hb.size)
  replace RX := hd ((RX.out.below hb (Nat.le_refl _)).mono hb.size)
  clear hb
  generalize hsHF : z10.heap.size = sHF at *
  generalize z10.alloc (Obj.cells #[.string ⟨#[]⟩, .int .i64 0, .slice none 0 0, .slice none 0 0] 34) = VHF at *
  clear hsHF
  refine (CR.out _ _ _ RL.out RG.out).mono ?_
  rintro e z11 ⟨rfl, hb⟩
  replace HQ := hd ((hb.block _ (blk_lt HQ.out)).trans HQ.out)
  replace HC := hd ((hb.block _ (blk_lt HC.out)).trans HC.out)
  replace HF := hd ((hb.block _ (blk_lt HF.out)).trans HF.out)
  replace HB := hd (HB.out.trans (hb.mono HB.out.size))
  replace RL := hd ((RL.out.below hb (Nat.le_refl _)).mono hb.size)
  replace RG := hd ((RG.out.below hb (Nat.le_refl _)).mono hb.size)
  replace RU := hd ((RU.out.below hb (Nat.le_refl _)).mono hb.size)
  replace RX := hd ((RX.out.below hb (Nat.le_refl _)).mono hb.size)
  clear hb
  go_wp2_with fail
  refine (CU.out _ _ RU.out).mono ?_
  rintro e z12 ⟨rfl, hb⟩
  replace HQ := hd ((hb.block _ (blk_lt HQ.out)).trans HQ.out)
  replace HC := hd ((hb.block _ (blk_lt HC.out)).trans HC.out)
  replace HF := hd ((hb.block _ (blk_lt HF.out)).trans HF.out)
  replace HB := hd (HB.out.trans (hb.mono HB.out.size))
  replace RL := hd ((RL.out.below hb (Nat.le_refl _)).mono hb.size)
  replace RG := hd ((RG.out.below hb (Nat.le_refl _)).mono hb.size)
  replace RU := hd ((RU.out.below hb (Nat.le_refl _)).mono hb.size)
  replace RX := hd ((RX.out.below hb (Nat.le_refl _)).mono hb.size)
  clear hb
  go_wp2_with fail
  have hb := (Below.refl z12.heap.size z12).alloc (Nat.le_refl _) (Obj.cells #[.int .i64 E, .int .i64 (EU)] 3)
  have hR := hd (Rd.new z12 #[.int .i64 E, .int .i64 (EU)] 3 2 ([E, EU].map (Value.int .i64)) rfl (by decide))
  replace HQ := hd ((hb.block _ (blk_lt HQ.out)).trans HQ.out)
  replace HC := hd ((hb.block _ (blk_lt HC.out)).trans HC.out)
  replace HF := hd ((hb.block _ (blk_lt HF.out)).trans HF.out)
  replace HB := hd (HB.out.trans (hb.mono HB.out.size))
  replace RL := hd ((RL.out.below hb (Nat.le_refl _)).mono hb.size)
  replace RG := hd ((RG.out.below hb (Nat.le_refl _)).mono hb.size)
  replace RU := hd ((RU.out.below hb (Nat.le_refl _)).mono hb.size)
  replace RX := hd ((RX.out.below hb (Nat.le_refl _)).mono hb.size)
  clear hb
  generalize z12.alloc (Obj.cells #[.int .i64 E, .int .i64 (EU)] 3) = Y0 at *
  refine (lawFirst_any _ [E, EU] _ hR.out).mono ?_
  rw [H1.out]
  rintro e w' ⟨rfl, rfl⟩
  clear hR
  go_wp2_with fail
  refine (refRange_any n 0 4096 _).mono ?_
  rintro e z13 ⟨rfl, hb⟩
  replace HQ := hd ((hb.block _ (blk_lt HQ.out)).trans HQ.out)
  replace HC := hd ((hb.block _ (blk_lt HC.out)).trans HC.out)
  replace HF := hd ((hb.block _ (blk_lt HF.out)).trans HF.out)
  replace HB := hd (HB.out.trans (hb.mono HB.out.size))
  replace RL := hd ((RL.out.below hb (Nat.le_refl _)).mono hb.size)
  replace RG := hd ((RG.out.below hb (Nat.le_refl _)).mono hb.size)
  replace RU := hd ((RU.out.below hb (Nat.le_refl _)).mono hb.size)
  replace RX := hd ((RX.out.below hb (Nat.le_refl _)).mono hb.size)
  clear hb
  go_wp2_with fail
  have hb := (Below.refl z13.heap.size z13).alloc (Nat.le_refl _) (Obj.cells #[.int .i64 E, .int .i64 (rng n 0 4096)] 3)
  have hR := hd (Rd.new z13 #[.int .i64 E, .int .i64 (rng n 0 4096)] 3 2 ([E, rng n 0 4096].map (Value.int .i64)) rfl (by decide))
  replace HQ := hd ((hb.block _ (blk_lt HQ.out)).trans HQ.out)
  replace HC := hd ((hb.block _ (blk_lt HC.out)).trans HC.out)
  replace HF := hd ((hb.block _ (blk_lt HF.out)).trans HF.out)
  replace HB := hd (HB.out.trans (hb.mono HB.out.size))
  replace RL := hd ((RL.out.below hb (Nat.le_refl _)).mono hb.size)
  replace RG := hd ((RG.out.below hb (Nat.le_refl _)).mono hb.size)
  replace RU := hd ((RU.out.below hb (Nat.le_refl _)).mono hb.size)
  replace RX := hd ((RX.out.below hb (Nat.le_refl _)).mono hb.size)
  clear hb
  generalize z13.alloc (Obj.cells #[.int .i64 E, .int .i64 (rng n 0 4096)] 3) = Y1 at *
  refine (lawFirst_any _ [E, rng n 0 4096] _ hR.out).mono ?_
  rw [H3.out]
  rintro e w' ⟨rfl, rfl⟩
  clear hR
  go_wp2_with fail
  have hb0 := ((Below.refl Y1.heap.size Y1).alloc (Nat.le_refl _) (Obj.cells #[.string ⟨#[]⟩, .int .i64 0, .slice none 0 0, .slice none 0 0] 25)).alloc (by simp) (Obj.cells #[.string ⟨#[]⟩, .int .i64 0, .slice none 0 0, .slice none 0 0] 25)
  have HY := hd hb0
  have HD1 := hd (show ((Y1.alloc (Obj.cells #[.string ⟨#[]⟩, .int .i64 0, .slice none 0 0, .slice none 0 0] 25)).alloc (Obj.cells #[.string ⟨#[]⟩, .int .i64 0, .slice none 0 0, .slice none 0 0] 25)).heap[Y1.heap.size]? = some (.cells #[.string ⟨#[]⟩, .int .i64 0, .slice none 0 0, .slice none 0 0] 25 (0, 0)) from (Below.heap_alloc _ _ _ (by simp)).trans (blk_new _ _ _))
  have HD2 := hd (show ((Y1.alloc (Obj.cells #[.string ⟨#[]⟩, .int .i64 0, .slice none 0 0, .slice none 0 0] 25)).alloc (Obj.cells #[.string ⟨#[]⟩, .int .i64 0, .slice none 0 0, .slice none 0 0] 25)).heap[Y1.heap.size + 1]? = some (.cells #[.string ⟨#[]⟩, .int .i64 0, .slice none 0 0, .slice none 0 0] 25 (0, 0)) from by have h := blk_new (Y1.alloc (Obj.cells #[.string ⟨#[]⟩, .int .i64 0, .slice none 0 0, .slice none 0 0] 25)) #[.string ⟨#[]⟩, .int .i64 0, .slice none 0 0, .slice none 0 0] 25; rw [World.size_alloc] at h; exact h)
  have HYS := hd (show ((Y1.alloc (Obj.cells #[.string ⟨#[]⟩, .int .i64 0, .slice none 0 0, .slice none 0 0] 25)).alloc (Obj.cells #[.string ⟨#[]⟩, .int .i64 0, .slice none 0 0, .slice none 0 0] 25)).heap.size = Y1.heap.size + 2 by simp)
  clear hb0
  have hqd : Y1.heap.size ≠ w.heap.size := by have := blk_lt HQ.out; omega
  have hqd' := hqd.symm
  generalize (Y1.alloc (Obj.cells #[.string ⟨#[]⟩, .int .i64 0, .slice none 0 0, .slice none 0 0] 25)).alloc (Obj.cells #[.string ⟨#[]⟩, .int .i64 0, .slice none 0 0, .slice none 0 0] 25) = V5 at *
  refine (sameInts_any _ _ [] [] _ ((RX.out.below HY.out (Nat.le_refl _)).mono HY.out.size) (Rd.nil _ _)).mono ?_
  rw [sameF_refl]
  rintro e a1 ⟨rfl, hb⟩
  replace HD1 := hd ((hb.block _ (blk_lt HD1.out)).trans HD1.out)
  replace HD2 := hd ((hb.block _ (blk_lt HD2.out)).trans HD2.out)
  replace HY := hd (HY.out.trans (hb.mono HY.out.size))
  clear hb
  have hx1' := (HY.out.block _ (blk_lt HC.out)).trans HC.out
  have p0 := blk_cell hx1' 0
  have p1 := blk_cell hx1' 1
  have p2 := blk_cell hx1' 2
  have p3 := blk_cell hx1' 3
  have r0 := blk_cell HD1.out 0
  have r1 := blk_cell HD1.out 1
  have r2 := blk_cell HD1.out 2
  have r3 := blk_cell HD1.out 3
  simp at p0 p1 p2 p3 r0 r1 r2 r3
  clear hx1'
  go_wp2_with fail
  refine (told_bad x1 ⟨#[]⟩ 0 none none 0 0 0 0 _ hx1).mono ?_
  rintro e a2 ⟨rfl, hb⟩
  clear p0 p1 p2 p3 r0 r1 r2 r3
  replace HD1 := hd ((hb.block _ (blk_lt HD1.out)).trans HD1.out)
  replace HD2 := hd ((hb.block _ (blk_lt HD2.out)).trans HD2.out)
  replace HY := hd (HY.out.trans (hb.mono HY.out.size))
  clear hb
  have hx1' := (HY.out.block _ (blk_lt HF.out)).trans HF.out
  have p0 := blk_cell hx1' 0
  have p1 := blk_cell hx1' 1
  have p2 := blk_cell hx1' 2
  have p3 := blk_cell hx1' 3
  have r0 := blk_cell HD2.out 0
  have r1 := blk_cell HD2.out 1
  have r2 := blk_cell HD2.out 2
  have r3 := blk_cell HD2.out 3
  simp at p0 p1 p2 p3 r0 r1 r2 r3
  clear hx1'
  go_wp2_with fail
  refine (told_bad x3 ⟨#[]⟩ 0 none none 0 0 0 0 _ hx3).mono ?_
  rintro e a3 ⟨rfl, hb⟩
  clear p0 p1 p2 p3 r0 r1 r2 r3
  replace HD1 := hd ((hb.block _ (blk_lt HD1.out)).trans HD1.out)
  replace HD2 := hd ((hb.block _ (blk_lt HD2.out)).trans HD2.out)
  replace HY := hd (HY.out.trans (hb.mono HY.out.size))
  clear hb
  go_wp2_with fail
  refine (sameSpans_any _ _ [] [] _ (Rd.nil _ _) (Rd.nil _ _)).mono ?_
  rw [sm_spans]
  rintro e a4 ⟨rfl, hb⟩
  have HBE := hd (HB.out.trans ((HY.out.trans (hb.mono HY.out.size)).mono HB.out.size))
  clear hb
  go_wp2_with fail
  go_returns
  exact ⟨rfl, HBE.out⟩
end Go.Proofs.YtcekfcefdmejeaaGreatDoor
