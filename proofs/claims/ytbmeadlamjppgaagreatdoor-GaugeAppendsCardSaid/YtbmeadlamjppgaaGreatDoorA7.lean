/-
  The walk of GaugeAppends.
-/
import Derived.Test.YtbmeadlamjppgaaGreatDoorProg
import Derived.Test.YtbmeadlamjppgaaGreatDoorA5
import Derived.Test.YtbmeadlamjppgaaGreatDoorQ4
import Derived.Test.YtbmeadlamjppgaaGreatDoorQ5
import Derived.Test.YtbmeadlamjppgaaGreatDoorQS
import Derived.Test.YtbmeadlamjppgaaGreatDoorAw
import Derived.Deep.RegionHeld3
namespace Go.Proofs.YtbmeadlamjppgaaGreatDoor
open Go.RowKit
attribute [local go_sem] Oper.semAt_some

def GotA (nm : ByteArray) (st : Int) (XL : List Nat) (XG : List (Int × Int)) (w : World) (e : Ending) (w' : World) : Prop :=
  ∃ lv gv, e = .returned (.tuple #[.agg #[.string nm, .int .i64 st, lv, gv], .int .i64 0]) ∧ w'.ownsRow w.heap.size 43 1 lv XL.length (flc XL) ∧ w'.ownsRow w.heap.size 80 2 gv XG.length (spc XG) ∧ Below w.heap.size w w'

set_option maxRecDepth 1000000 in
set_option maxHeartbeats 16000000 in
theorem appends_ok (HA : Hid Awake) (nm nm2 : ByteArray) (st st2 : Int) (A A2 B B2 : Option Addr) (c c2 d d2 : Nat) (bs cs XL LB : List Nat) (gs hs XG : List (Int × Int)) (E1 E2 x1 x2 : Int) (w : World)
    (HL : Hid (Rd w w.heap.size (.slice A bs.length c) bs.length (flc bs))) (HG : Hid (Rd w w.heap.size (.slice A2 gs.length c2) gs.length (spc gs))) (HL2 : Hid (Rd w w.heap.size (.slice B cs.length d) cs.length (flc cs))) (HG2 : Hid (Rd w w.heap.size (.slice B2 hs.length d2) hs.length (spc hs)))
    (FL : Hid (Full (.slice A bs.length c))) (FG : Hid (Full (.slice A2 gs.length c2))) (FL2 : Hid (Full (.slice B cs.length d))) (FG2 : Hid (Full (.slice B2 hs.length d2)))
    (S1 : Hid (shortR nm.size bs.length gs.length = true)) (S2 : Hid (shortR nm2.size cs.length hs.length = true)) (HN : Hid (bs.length ≤ 100000 ∧ gs.length ≤ 100000 ∧ cs.length ≤ 100000 ∧ hs.length ≤ 100000))
    (CR1 : Hid (∀ (W : World) (lv gv : Value), Rd W W.heap.size lv bs.length (flc bs) → Rd W W.heap.size gv gs.length (spc gs) → Calls Tryz.prog 12 #[.agg #[.string nm, .int .i64 st, lv, gv]] W fun e w' => e = .returned (.int .i64 E1) ∧ Below W.heap.size W w'))
    (CR2 : Hid (∀ (W : World) (lv gv : Value), Rd W W.heap.size lv cs.length (flc cs) → Rd W W.heap.size gv hs.length (spc hs) → Calls Tryz.prog 12 #[.agg #[.string nm2, .int .i64 st2, lv, gv]] W fun e w' => e = .returned (.int .i64 E2) ∧ Below W.heap.size W w'))
    (H1 : Hid (fst0 [E1, E2] = x1)) (h1 : (x1 == 0) = true)
    (GA : Hid (∀ (W : World) (u1 u2 u3 u4 : Value), Rd W W.heap.size u1 bs.length (flc bs) → Rd W W.heap.size u2 gs.length (spc gs) → Rd W W.heap.size u3 cs.length (flc cs) → Rd W W.heap.size u4 hs.length (spc hs) → Full u1 → Full u3 → Calls Tryz.prog 26 #[.agg #[.string nm, .int .i64 st, u1, u2], .agg #[.string nm2, .int .i64 st2, u3, u4]] W (GotA nm st XL XG W)))
    (CA : Hid (∀ (W : World), Calls Tryz.prog 27 #[.agg #[.string nm, .int .i64 st, .slice A bs.length c, .slice A2 gs.length c2], .agg #[.string nm2, .int .i64 st2, .slice B cs.length d, .slice B2 hs.length d2]] W fun e w' => e = .returned (.int .i64 x2) ∧ Below W.heap.size W w')) (h2 : (x2 == 0) = true)
    (RA : Hid (∀ (W : World), Rd W W.heap.size (.slice A bs.length c) bs.length (flc bs) → Rd W W.heap.size (.slice A2 gs.length c2) gs.length (spc gs) → Rd W W.heap.size (.slice B cs.length d) cs.length (flc cs) → Rd W W.heap.size (.slice B2 hs.length d2) hs.length (spc hs) → Calls Tryz.prog 28 #[.agg #[.string nm, .int .i64 st, .slice A bs.length c, .slice A2 gs.length c2], .agg #[.string nm2, .int .i64 st2, .slice B cs.length d, .slice B2 hs.length d2]] W (OwnsRec W.heap.size nm st LB XG W)))
    (HLC : Hid (sameF feqL 0 XL LB = true)) :
    Calls Tryz.prog 5 #[.agg #[.string nm, .int .i64 st, .slice A bs.length c, .slice A2 gs.length c2], .agg #[.string nm2, .int .i64 st2, .slice B cs.length d, .slice B2 hs.length d2]] w fun e w' => e = .returned (.bool true) ∧ Below w.heap.size w w' := by
  obtain rfl : x1 = 0 := by simpa using h1
  obtain rfl : x2 = 0 := by simpa using h2
  have hb1 := ((Below.refl w.heap.size w).alloc (Nat.le_refl _) (Obj.cells #[.string nm, .int .i64 st, .slice A bs.length c, .slice A2 gs.length c2] 25)).alloc (by simp) (Obj.cells #[.string nm2, .int .i64 st2, .slice B cs.length d, .slice B2 hs.length d2] 25)
  have HQ := hd (show ((w.alloc (Obj.cells #[.string nm, .int .i64 st, .slice A bs.length c, .slice A2 gs.length c2] 25)).alloc (Obj.cells #[.string nm2, .int .i64 st2, .slice B cs.length d, .slice B2 hs.length d2] 25)).heap[w.heap.size]? = some (.cells #[.string nm, .int .i64 st, .slice A bs.length c, .slice A2 gs.length c2] 25 (0, 0)) from (Below.heap_alloc _ _ _ (by simp)).trans (blk_new _ _ _))
  have HQ2 := hd (show ((w.alloc (Obj.cells #[.string nm, .int .i64 st, .slice A bs.length c, .slice A2 gs.length c2] 25)).alloc (Obj.cells #[.string nm2, .int .i64 st2, .slice B cs.length d, .slice B2 hs.length d2] 25)).heap[w.heap.size + 1]? = some (.cells #[.string nm2, .int .i64 st2, .slice B cs.length d, .slice B2 hs.length d2] 25 (0, 0)) from by have h := blk_new (w.alloc (Obj.cells #[.string nm, .int .i64 st, .slice A bs.length c, .slice A2 gs.length c2] 25)) #[.string nm2, .int .i64 st2, .slice B cs.length d, .slice B2 hs.length d2] 25; rw [World.size_alloc] at h; exact h)
  have HB := hd hb1
  have RL := hd ((HL.out.below hb1 (Nat.le_refl _)).mono hb1.size)
  have RG := hd ((HG.out.below hb1 (Nat.le_refl _)).mono hb1.size)
  have RM := hd ((HL2.out.below hb1 (Nat.le_refl _)).mono hb1.size)
  have RH := hd ((HG2.out.below hb1 (Nat.le_refl _)).mono hb1.size)
  clear hb1
  go_enter Tryz.func5, Tryz.ntmps5
  go_wp2_with fail
  generalize ((w.alloc (Obj.cells #[.string nm, .int .i64 st, .slice A bs.length c, .slice A2 gs.length c2] 25)).alloc (Obj.cells #[.string nm2, .int .i64 st2, .slice B cs.length d, .slice B2 hs.length d2] 25)) = W1 at *
  refine (HA.out _).mono ?_
  rintro e z0 ⟨rfl, hb⟩
  replace HQ := hd ((hb.block _ (blk_lt HQ.out)).trans HQ.out)
  replace HQ2 := hd ((hb.block _ (blk_lt HQ2.out)).trans HQ2.out)
  replace HB := hd (HB.out.trans (hb.mono HB.out.size))
  replace RL := hd ((RL.out.below hb (Nat.le_refl _)).mono hb.size)
  replace RG := hd ((RG.out.below hb (Nat.le_refl _)).mono hb.size)
  replace RM := hd ((RM.out.below hb (Nat.le_refl _)).mono hb.size)
  replace RH := hd ((RH.out.below hb (Nat.le_refl _)).mono hb.size)
  clear hb
  have k0 := blk_cell HQ.out 0
  have k1 := blk_cell HQ.out 1
  have k2 := blk_cell HQ.out 2
  have k3 := blk_cell HQ.out 3
  have k4 := blk_cell HQ2.out 0
  have k5 := blk_cell HQ2.out 1
  have k6 := blk_cell HQ2.out 2
  have k7 := blk_cell HQ2.out 3
  simp at k0 k1 k2 k3 k4 k5 k6 k7
  go_wp2_with fail
  refine (short_any nm st A A2 bs.length c gs.length c2 _).mono ?_
  rw [S1.out]
  rintro e z1 ⟨rfl, hb⟩
  replace HQ := hd ((hb.block _ (blk_lt HQ.out)).trans HQ.out)
  replace HQ2 := hd ((hb.block _ (blk_lt HQ2.out)).trans HQ2.out)
  replace HB := hd (HB.out.trans (hb.mono HB.out.size))
  replace RL := hd ((RL.out.below hb (Nat.le_refl _)).mono hb.size)
  replace RG := hd ((RG.out.below hb (Nat.le_refl _)).mono hb.size)
  replace RM := hd ((RM.out.below hb (Nat.le_refl _)).mono hb.size)
  replace RH := hd ((RH.out.below hb (Nat.le_refl _)).mono hb.size)
  clear hb
  clear k0 k1 k2 k3 k4 k5 k6 k7
  have k0 := blk_cell HQ.out 0
  have k1 := blk_cell HQ.out 1
  have k2 := blk_cell HQ.out 2
  have k3 := blk_cell HQ.out 3
  have k4 := blk_cell HQ2.out 0
  have k5 := blk_cell HQ2.out 1
  have k6 := blk_cell HQ2.out 2
  have k7 := blk_cell HQ2.out 3
  simp at k0 k1 k2 k3 k4 k5 k6 k7
  go_wp2_with fail
  refine (short_any nm2 st2 B B2 cs.length d hs.length d2 _).mono ?_
  rw [S2.out]
  rintro e z2 ⟨rfl, hb⟩
  replace HQ := hd ((hb.block _ (blk_lt HQ.out)).trans HQ.out)
  replace HQ2 := hd ((hb.block _ (blk_lt HQ2.out)).trans HQ2.out)
  replace HB := hd (HB.out.trans (hb.mono HB.out.size))
  replace RL := hd ((RL.out.below hb (Nat.le_refl _)).mono hb.size)
  replace RG := hd ((RG.out.below hb (Nat.le_refl _)).mono hb.size)
  replace RM := hd ((RM.out.below hb (Nat.le_refl _)).mono hb.size)
  replace RH := hd ((RH.out.below hb (Nat.le_refl _)).mono hb.size)
  clear hb
  clear k0 k1 k2 k3 k4 k5 k6 k7
  have HRA := hd (fun (X : World) (hb : Below z2.heap.size z2 X) => lawRecord_any nm st _ _ bs gs X ((RL.out.below hb (Nat.le_refl _)).mono hb.size) ((RG.out.below hb (Nat.le_refl _)).mono hb.size) FL.out FG.out HN.out.1 HN.out.2.1)
  have HRB := hd (fun (X : World) (hb : Below z2.heap.size z2 X) => lawRecord_any nm2 st2 _ _ cs hs X ((RM.out.below hb (Nat.le_refl _)).mono hb.size) ((RH.out.below hb (Nat.le_refl _)).mono hb.size) FL2.out FG2.out HN.out.2.2.1 HN.out.2.2.2)
  have k0 := blk_cell HQ.out 0
  have k1 := blk_cell HQ.out 1
  have k2 := blk_cell HQ.out 2
  have k3 := blk_cell HQ.out 3
  have k4 := blk_cell HQ2.out 0
  have k5 := blk_cell HQ2.out 1
  have k6 := blk_cell HQ2.out 2
  have k7 := blk_cell HQ2.out 3
  simp at k0 k1 k2 k3 k4 k5 k6 k7
  have HVS := hd (show w.heap.size + 2 ≤ z2.heap.size from by have := blk_lt HQ2.out; omega)
  have hn0 : z2.heap.size ≠ w.heap.size := by have := HVS.out; omega
  have hn0' := hn0.symm
  have hn1 : z2.heap.size ≠ w.heap.size + 1 := by have := HVS.out; omega
  have hn1' := hn1.symm
  go_wp2_with fail
  go_cut [5, 6] from 22 (fun s5 s6 wx => ∃ (P : Nat), s5 = .pointer (some ⟨P, 0, none⟩) ∧ s6 = .int .i64 0 ∧ Hid (Below z2.heap.size z2 wx ∧ ∃ (lv gv : Value), wx.heap[P]? = some (.cells #[.string nm, .int .i64 st, lv, gv] 29 (0, 0)) ∧ Rd wx wx.heap.size lv XL.length (flc XL) ∧ Rd wx wx.heap.size gv XG.length (spc XG)))
  case first =>
    go_region_held3 (fun x => x.cell? ⟨w.heap.size, 0, none⟩ = some (.string nm) ∧ x.cell? ⟨w.heap.size, 1, none⟩ = some (.int .i64 st) ∧ x.cell? ⟨w.heap.size, 2, none⟩ = some (.slice A bs.length c) ∧ x.cell? ⟨w.heap.size, 3, none⟩ = some (.slice A2 gs.length c2) ∧ x.cell? ⟨w.heap.size + 1, 0, none⟩ = some (.string nm2) ∧ x.cell? ⟨w.heap.size + 1, 1, none⟩ = some (.int .i64 st2) ∧ x.cell? ⟨w.heap.size + 1, 2, none⟩ = some (.slice B cs.length d) ∧ x.cell? ⟨w.heap.size + 1, 3, none⟩ = some (.slice B2 hs.length d2)) (go_keep)
      (first | (go_at_call 10; revert UA; intro UA; refine (HRB.out _ (by first | exact HXy1.out | exact HXy1.out.alloc HXy1.out.size _ | exact HXy1.out.drew | exact (HXy1.out.alloc HXy1.out.size _).drew)).mono ?_; rintro e y2 ⟨u3, u4, rfl, hu3, hu4, hf3, -, hb⟩; have HZ2 := hd (show Below y1.heap.size y1 y2 from by first | exact hb | exact ((Below.refl _ y1).alloc (Nat.le_refl _) _).trans (hb.mono (by simp))); have HXy2 := hd (HXy1.out.trans (HZ2.out.mono HXy1.out.size)); have hqy2 := (HXy2.out.block _ (blk_lt HQ.out)).trans HQ.out; have hpy2 := (HXy2.out.block _ (blk_lt HQ2.out)).trans HQ2.out; have M0 := blk_cell hqy2 0; have M1 := blk_cell hqy2 1; have M2 := blk_cell hqy2 2; have M3 := blk_cell hqy2 3; have M4 := blk_cell hpy2 0; have M5 := blk_cell hpy2 1; have M6 := blk_cell hpy2 2; have M7 := blk_cell hpy2 3; simp at M0 M1 M2 M3 M4 M5 M6 M7; clear hqy2 hpy2; have hsy2 := HXy2.out.size; have hay2 : y2.heap.size ≠ w.heap.size := (by have := HVS.out; omega); have hay2' := hay2.symm; have hcy2 : y2.heap.size ≠ w.heap.size + 1 := (by have := HVS.out; omega); have hcy2' := hcy2.symm; (first | (have hP : y2.heap[y1.heap.size]? = some (Obj.cells #[.string ⟨#[]⟩, .int .i64 0, .slice none 0 0, .slice none 0 0] 29 (0, 0)) := (hb.block _ (show y1.heap.size < (y1.alloc (Obj.cells #[.string ⟨#[]⟩, .int .i64 0, .slice none 0 0, .slice none 0 0] 29)).heap.size by simp)).trans (blk_new y1 #[.string ⟨#[]⟩, .int .i64 0, .slice none 0 0, .slice none 0 0] 29); have Mp0 := blk_cell hP 0; have Mp1 := blk_cell hP 1; have Mp2 := blk_cell hP 2; have Mp3 := blk_cell hP 3; simp at Mp0 Mp1 Mp2 Mp3; have Mf0 := blk_frozen hP 0; have Mf1 := blk_frozen hP 1; have Mf2 := blk_frozen hP 2; have Mf3 := blk_frozen hP 3; have HPB := hd hP; clear hP) | (have hP := (HZ2.out.block _ (blk_lt HPA.out)).trans HPA.out; have Mp0 := blk_cell hP 0; have Mp1 := blk_cell hP 1; have Mp2 := blk_cell hP 2; have Mp3 := blk_cell hP 3; simp at Mp0 Mp1 Mp2 Mp3; have Mf0 := blk_frozen hP 0; have Mf1 := blk_frozen hP 1; have Mf2 := blk_frozen hP 2; have Mf3 := blk_frozen hP 3; have HPB := hd hP; clear hP) | skip); have UB := hd (And.intro hu3 (And.intro hu4 hf3)); clear hu3 hu4 hf3 hb) | (go_at_call 10; refine (HRA.out _ (by first | exact (Below.refl _ z2).drew | exact ((Below.refl _ z2).alloc (Nat.le_refl _) _).drew | exact Below.refl _ z2)).mono ?_; rintro e y1 ⟨u1, u2, rfl, hu1, hu2, hf1, -, hb⟩; have HXy1 := hd (show Below z2.heap.size z2 y1 from by first | exact (Below.refl _ z2).drew.trans hb | exact (((Below.refl _ z2).alloc (Nat.le_refl _) _).drew).trans (hb.mono (Nat.le_of_lt (show z2.heap.size < (z2.alloc (Obj.cells #[.string ⟨#[]⟩, .int .i64 0, .slice none 0 0, .slice none 0 0] 29)).heap.size by simp)))); have hqy1 := (HXy1.out.block _ (blk_lt HQ.out)).trans HQ.out; have hpy1 := (HXy1.out.block _ (blk_lt HQ2.out)).trans HQ2.out; have N0 := blk_cell hqy1 0; have N1 := blk_cell hqy1 1; have N2 := blk_cell hqy1 2; have N3 := blk_cell hqy1 3; have N4 := blk_cell hpy1 0; have N5 := blk_cell hpy1 1; have N6 := blk_cell hpy1 2; have N7 := blk_cell hpy1 3; simp at N0 N1 N2 N3 N4 N5 N6 N7; clear hqy1 hpy1; have hsy1 := HXy1.out.size; have hay1 : y1.heap.size ≠ w.heap.size := (by have := HVS.out; omega); have hay1' := hay1.symm; have hcy1 : y1.heap.size ≠ w.heap.size + 1 := (by have := HVS.out; omega); have hcy1' := hcy1.symm; (first | (have hP : y1.heap[z2.heap.size]? = some (Obj.cells #[.string ⟨#[]⟩, .int .i64 0, .slice none 0 0, .slice none 0 0] 29 (0, 0)) := (hb.block _ (show z2.heap.size < (z2.alloc (Obj.cells #[.string ⟨#[]⟩, .int .i64 0, .slice none 0 0, .slice none 0 0] 29)).heap.size by simp)).trans (blk_new z2 #[.string ⟨#[]⟩, .int .i64 0, .slice none 0 0, .slice none 0 0] 29); have Np0 := blk_cell hP 0; have Np1 := blk_cell hP 1; have Np2 := blk_cell hP 2; have Np3 := blk_cell hP 3; simp at Np0 Np1 Np2 Np3; have Nf0 := blk_frozen hP 0; have Nf1 := blk_frozen hP 1; have Nf2 := blk_frozen hP 2; have Nf3 := blk_frozen hP 3; have HPA := hd hP; clear hP) | skip); have UA := hd (And.intro hu1 (And.intro hu2 hf1)); clear hu1 hu2 hf1 hb) | (go_at_call 26; refine (GA.out _ _ _ _ _ (by first | exact ((UA.out.1.below HZ2.out (Nat.le_refl _)).mono HZ2.out.size) | exact (((UA.out.1.below HZ2.out (Nat.le_refl _)).mono HZ2.out.size).below ((Below.refl _ y2).alloc (Nat.le_refl _) _) (Nat.le_refl _)).mono (by simp)) (by first | exact ((UA.out.2.1.below HZ2.out (Nat.le_refl _)).mono HZ2.out.size) | exact (((UA.out.2.1.below HZ2.out (Nat.le_refl _)).mono HZ2.out.size).below ((Below.refl _ y2).alloc (Nat.le_refl _) _) (Nat.le_refl _)).mono (by simp)) (by first | exact UB.out.1 | exact (UB.out.1.below ((Below.refl _ y2).alloc (Nat.le_refl _) _) (Nat.le_refl _)).mono (by simp)) (by first | exact UB.out.2.1 | exact (UB.out.2.1.below ((Below.refl _ y2).alloc (Nat.le_refl _) _) (Nat.le_refl _)).mono (by simp)) UA.out.2.2 UB.out.2.2).mono ?_; rintro e y3 ⟨v1, v2, rfl, hv1, hv2, hb⟩; have OV := hd (And.intro hv1 hv2); obtain ⟨D1, e1, hw1, -⟩ := own_form hv1; obtain ⟨D2, e2, hw2, -⟩ := own_form hv2; subst hw1; subst hw2; clear hv1 hv2; have HZ3 := hd (show Below y2.heap.size y2 y3 from by first | exact hb | exact ((Below.refl _ y2).alloc (Nat.le_refl _) _).trans (hb.mono (by simp))); have HXy3 := hd (HXy2.out.trans (HZ3.out.mono HXy2.out.size)); have hqy3 := (HXy3.out.block _ (blk_lt HQ.out)).trans HQ.out; have hpy3 := (HXy3.out.block _ (blk_lt HQ2.out)).trans HQ2.out; have J0 := blk_cell hqy3 0; have J1 := blk_cell hqy3 1; have J2 := blk_cell hqy3 2; have J3 := blk_cell hqy3 3; have J4 := blk_cell hpy3 0; have J5 := blk_cell hpy3 1; have J6 := blk_cell hpy3 2; have J7 := blk_cell hpy3 3; simp at J0 J1 J2 J3 J4 J5 J6 J7; clear hqy3 hpy3; have hsy3 := HXy3.out.size; have hay3 : y3.heap.size ≠ w.heap.size := (by have := HVS.out; omega); have hay3' := hay3.symm; have hcy3 : y3.heap.size ≠ w.heap.size + 1 := (by have := HVS.out; omega); have hcy3' := hcy3.symm; (first | (have hP : y3.heap[y2.heap.size]? = some (Obj.cells #[.string ⟨#[]⟩, .int .i64 0, .slice none 0 0, .slice none 0 0] 29 (0, 0)) := (hb.block _ (show y2.heap.size < (y2.alloc (Obj.cells #[.string ⟨#[]⟩, .int .i64 0, .slice none 0 0, .slice none 0 0] 29)).heap.size by simp)).trans (blk_new y2 #[.string ⟨#[]⟩, .int .i64 0, .slice none 0 0, .slice none 0 0] 29); have Jp0 := blk_cell hP 0; have Jp1 := blk_cell hP 1; have Jp2 := blk_cell hP 2; have Jp3 := blk_cell hP 3; simp at Jp0 Jp1 Jp2 Jp3; have Jf0 := blk_frozen hP 0; have Jf1 := blk_frozen hP 1; have Jf2 := blk_frozen hP 2; have Jf3 := blk_frozen hP 3; have HPC := hd hP; clear hP) | (have hP := (HZ3.out.block _ (blk_lt HPB.out)).trans HPB.out; have Jp0 := blk_cell hP 0; have Jp1 := blk_cell hP 1; have Jp2 := blk_cell hP 2; have Jp3 := blk_cell hP 3; simp at Jp0 Jp1 Jp2 Jp3; have Jf0 := blk_frozen hP 0; have Jf1 := blk_frozen hP 1; have Jf2 := blk_frozen hP 2; have Jf3 := blk_frozen hP 3; have HPC := hd hP; clear hP) | skip); clear hb))
    all_goals
      go_wp2_with fail
      go_meet
      first
        | exact ⟨_, rfl, rfl, hd ⟨HXy3.out.alloc HXy3.out.size _, _, _, blk_new _ _ _, rd_of_own (OV.out.1.alloc _), rd_of_own (OV.out.2.alloc _)⟩⟩
        | exact ⟨_, rfl, rfl, hd ⟨set4_below HXy3.out (by first | exact Nat.le_refl _ | exact HXy1.out.size | exact HXy2.out.size) _ _ _ _, _, _, set4_blk HPC.out _ _ _ _, rd_of_own (own_set4 OV.out.1 (by first | exact blk_lt HPB.out | (simp; done))), rd_of_own (own_set4 OV.out.2 (by first | exact blk_lt HPB.out | (simp; done)))⟩⟩
  case rest =>
    obtain ⟨P, rfl, rfl, HC⟩ := hcut
    have hb := HC.out.1
    obtain ⟨lv, gv, hp1, hp2, hp3⟩ := HC.out.2
    obtain ⟨D1, e1, rfl, -⟩ := id hp2
    obtain ⟨D2, e2, rfl, -⟩ := id hp3
    have HP := hd hp1
    have RX1 := hd hp2
    have RX2 := hd hp3
    clear hp1 hp2 hp3
    clear HC HRA HRB k0 k1 k2 k3 k4 k5 k6 k7 hn0 hn0' hn1 hn1' HVS
    replace HQ := hd ((hb.block _ (blk_lt HQ.out)).trans HQ.out)
    replace HQ2 := hd ((hb.block _ (blk_lt HQ2.out)).trans HQ2.out)
    replace HB := hd (HB.out.trans (hb.mono HB.out.size))
    replace RL := hd ((RL.out.below hb (Nat.le_refl _)).mono hb.size)
    replace RG := hd ((RG.out.below hb (Nat.le_refl _)).mono hb.size)
    replace RM := hd ((RM.out.below hb (Nat.le_refl _)).mono hb.size)
    replace RH := hd ((RH.out.below hb (Nat.le_refl _)).mono hb.size)
    clear hb
    obtain ⟨Y, rfl⟩ : ∃ x : World, x = wc := ⟨_, rfl⟩
    have k0 := blk_cell HQ.out 0
    have k1 := blk_cell HQ.out 1
    have k2 := blk_cell HQ.out 2
    have k3 := blk_cell HQ.out 3
    have k4 := blk_cell HQ2.out 0
    have k5 := blk_cell HQ2.out 1
    have k6 := blk_cell HQ2.out 2
    have k7 := blk_cell HQ2.out 3
    simp at k0 k1 k2 k3 k4 k5 k6 k7
    go_wp2_with fail
    go_region_held3 (fun x => x.cell? ⟨w.heap.size, 0, none⟩ = some (.string nm) ∧ x.cell? ⟨w.heap.size, 1, none⟩ = some (.int .i64 st) ∧ x.cell? ⟨w.heap.size, 2, none⟩ = some (.slice A bs.length c) ∧ x.cell? ⟨w.heap.size, 3, none⟩ = some (.slice A2 gs.length c2) ∧ x.cell? ⟨w.heap.size + 1, 0, none⟩ = some (.string nm2) ∧ x.cell? ⟨w.heap.size + 1, 1, none⟩ = some (.int .i64 st2) ∧ x.cell? ⟨w.heap.size + 1, 2, none⟩ = some (.slice B cs.length d) ∧ x.cell? ⟨w.heap.size + 1, 3, none⟩ = some (.slice B2 hs.length d2)) (go_keep) (first | (go_at_call 12; revert HXv1; intro HXv1; refine (CR2.out _ _ _ ((RM.out.below HXv1.out (Nat.le_refl _)).mono HXv1.out.size) ((RH.out.below HXv1.out (Nat.le_refl _)).mono HXv1.out.size)).mono ?_; rintro e v2 ⟨rfl, hb⟩; have HXv2 := hd (HXv1.out.trans (hb.mono HXv1.out.size)); have hqv2 := (HXv2.out.block _ (blk_lt HQ.out)).trans HQ.out; have hpv2 := (HXv2.out.block _ (blk_lt HQ2.out)).trans HQ2.out; have M0 := blk_cell hqv2 0; have M1 := blk_cell hqv2 1; have M2 := blk_cell hqv2 2; have M3 := blk_cell hqv2 3; have M4 := blk_cell hpv2 0; have M5 := blk_cell hpv2 1; have M6 := blk_cell hpv2 2; have M7 := blk_cell hpv2 3; simp at M0 M1 M2 M3 M4 M5 M6 M7; clear hqv2 hpv2; clear hb) | (go_at_call 12; refine (CR1.out _ _ _ ((RL.out.below (Below.refl Y.heap.size Y).drew (Nat.le_refl _)).mono (Below.refl Y.heap.size Y).drew.size) ((RG.out.below (Below.refl Y.heap.size Y).drew (Nat.le_refl _)).mono (Below.refl Y.heap.size Y).drew.size)).mono ?_; rintro e v1 ⟨rfl, hb⟩; have HXv1 := hd (show Below Y.heap.size Y v1 from (Below.refl Y.heap.size Y).drew.trans hb); have hqv1 := (HXv1.out.block _ (blk_lt HQ.out)).trans HQ.out; have hpv1 := (HXv1.out.block _ (blk_lt HQ2.out)).trans HQ2.out; have N0 := blk_cell hqv1 0; have N1 := blk_cell hqv1 1; have N2 := blk_cell hqv1 2; have N3 := blk_cell hqv1 3; have N4 := blk_cell hpv1 0; have N5 := blk_cell hpv1 1; have N6 := blk_cell hpv1 2; have N7 := blk_cell hpv1 3; simp at N0 N1 N2 N3 N4 N5 N6 N7; clear hqv1 hpv1; clear hb) | (go_at_call 11; refine (lawFirst_any _ [E1, E2] _ (Rd.new v2 #[.int .i64 E1, .int .i64 E2] 3 2 ([E1, E2].map (Value.int .i64)) rfl (by decide))).mono ?_; rw [H1.out]; rintro e v3 ⟨rfl, rfl⟩))
    clear k0 k1 k2 k3 k4 k5 k6 k7
    have hb := HXv2.out.alloc HXv2.out.size (Obj.cells #[.int .i64 E1, .int .i64 E2] 3)
    replace HQ := hd ((hb.block _ (blk_lt HQ.out)).trans HQ.out)
    replace HQ2 := hd ((hb.block _ (blk_lt HQ2.out)).trans HQ2.out)
    replace HP := hd ((hb.block _ (blk_lt HP.out)).trans HP.out)
    replace HB := hd (HB.out.trans (hb.mono HB.out.size))
    replace RL := hd ((RL.out.below hb (Nat.le_refl _)).mono hb.size)
    replace RG := hd ((RG.out.below hb (Nat.le_refl _)).mono hb.size)
    replace RM := hd ((RM.out.below hb (Nat.le_refl _)).mono hb.size)
    replace RH := hd ((RH.out.below hb (Nat.le_refl _)).mono hb.size)
    replace RX1 := hd ((RX1.out.below hb (Nat.le_refl _)).mono hb.size)
    replace RX2 := hd ((RX2.out.below hb (Nat.le_refl _)).mono hb.size)
    clear hb
    clear HXv1 HXv2 N0 M0 N1 M1 N2 M2 N3 M3 N4 M4 N5 M5 N6 M6 N7 M7
    generalize v2.alloc (Obj.cells #[.int .i64 E1, .int .i64 E2] 3) = W4 at *
    have k0 := cell_alloc_old (o := (Obj.cells #[.string ⟨#[]⟩, .int .i64 0, .slice none 0 0, .slice none 0 0] 25)) (u := _) ((blk_cell HQ.out 0).trans rfl)
    have k1 := cell_alloc_old (o := (Obj.cells #[.string ⟨#[]⟩, .int .i64 0, .slice none 0 0, .slice none 0 0] 25)) (u := _) ((blk_cell HQ.out 1).trans rfl)
    have k2 := cell_alloc_old (o := (Obj.cells #[.string ⟨#[]⟩, .int .i64 0, .slice none 0 0, .slice none 0 0] 25)) (u := _) ((blk_cell HQ.out 2).trans rfl)
    have k3 := cell_alloc_old (o := (Obj.cells #[.string ⟨#[]⟩, .int .i64 0, .slice none 0 0, .slice none 0 0] 25)) (u := _) ((blk_cell HQ.out 3).trans rfl)
    have j0 := cell_alloc_old (o := (Obj.cells #[.string ⟨#[]⟩, .int .i64 0, .slice none 0 0, .slice none 0 0] 25)) (u := _) ((blk_cell HQ2.out 0).trans rfl)
    have j1 := cell_alloc_old (o := (Obj.cells #[.string ⟨#[]⟩, .int .i64 0, .slice none 0 0, .slice none 0 0] 25)) (u := _) ((blk_cell HQ2.out 1).trans rfl)
    have j2 := cell_alloc_old (o := (Obj.cells #[.string ⟨#[]⟩, .int .i64 0, .slice none 0 0, .slice none 0 0] 25)) (u := _) ((blk_cell HQ2.out 2).trans rfl)
    have j3 := cell_alloc_old (o := (Obj.cells #[.string ⟨#[]⟩, .int .i64 0, .slice none 0 0, .slice none 0 0] 25)) (u := _) ((blk_cell HQ2.out 3).trans rfl)
    have p0 := cell_alloc_old (o := (Obj.cells #[.string ⟨#[]⟩, .int .i64 0, .slice none 0 0, .slice none 0 0] 25)) (u := _) ((blk_cell HP.out 0).trans rfl)
    have p1 := cell_alloc_old (o := (Obj.cells #[.string ⟨#[]⟩, .int .i64 0, .slice none 0 0, .slice none 0 0] 25)) (u := _) ((blk_cell HP.out 1).trans rfl)
    have p2 := cell_alloc_old (o := (Obj.cells #[.string ⟨#[]⟩, .int .i64 0, .slice none 0 0, .slice none 0 0] 25)) (u := _) ((blk_cell HP.out 2).trans rfl)
    have p3 := cell_alloc_old (o := (Obj.cells #[.string ⟨#[]⟩, .int .i64 0, .slice none 0 0, .slice none 0 0] 25)) (u := _) ((blk_cell HP.out 3).trans rfl)
    go_wp2_with fail
    clear k0 k1 k2 k3 j0 j1 j2 j3 p0 p1 p2 p3
    have hlt1 := blk_lt HQ2.out
    have hlt2 := blk_lt HP.out
    have hb := (Below.refl W4.heap.size W4).alloc (Nat.le_refl _) (Obj.cells #[.string ⟨#[]⟩, .int .i64 0, .slice none 0 0, .slice none 0 0] 25)
    have HZ := hd (blk_new W4 #[.string ⟨#[]⟩, .int .i64 0, .slice none 0 0, .slice none 0 0] 25)
    have RB1 := hd RX1.out
    have RB2 := hd RX2.out
    have HY := hd hb
    replace HQ := hd ((hb.block _ (blk_lt HQ.out)).trans HQ.out)
    replace HQ2 := hd ((hb.block _ (blk_lt HQ2.out)).trans HQ2.out)
    replace HP := hd ((hb.block _ (blk_lt HP.out)).trans HP.out)
    replace HB := hd (HB.out.trans (hb.mono HB.out.size))
    replace RL := hd ((RL.out.below hb (Nat.le_refl _)).mono hb.size)
    replace RG := hd ((RG.out.below hb (Nat.le_refl _)).mono hb.size)
    replace RM := hd ((RM.out.below hb (Nat.le_refl _)).mono hb.size)
    replace RH := hd ((RH.out.below hb (Nat.le_refl _)).mono hb.size)
    replace RX1 := hd ((RX1.out.below hb (Nat.le_refl _)).mono hb.size)
    replace RX2 := hd ((RX2.out.below hb (Nat.le_refl _)).mono hb.size)
    clear hb
    generalize hsz : W4.heap.size = sz at *
    generalize W4.alloc (Obj.cells #[.string ⟨#[]⟩, .int .i64 0, .slice none 0 0, .slice none 0 0] 25) = W5 at *
    clear hsz
    refine (CA.out _).mono ?_
    rintro e a0 ⟨rfl, hb⟩
    replace HY := hd (HY.out.trans (hb.mono (Nat.le_of_lt (blk_lt HZ.out))))
    replace HQ := hd ((hb.block _ (blk_lt HQ.out)).trans HQ.out)
    replace HQ2 := hd ((hb.block _ (blk_lt HQ2.out)).trans HQ2.out)
    replace HP := hd ((hb.block _ (blk_lt HP.out)).trans HP.out)
    replace HZ := hd ((hb.block _ (blk_lt HZ.out)).trans HZ.out)
    replace HB := hd (HB.out.trans (hb.mono HB.out.size))
    replace RL := hd ((RL.out.below hb (Nat.le_refl _)).mono hb.size)
    replace RG := hd ((RG.out.below hb (Nat.le_refl _)).mono hb.size)
    replace RM := hd ((RM.out.below hb (Nat.le_refl _)).mono hb.size)
    replace RH := hd ((RH.out.below hb (Nat.le_refl _)).mono hb.size)
    replace RX1 := hd ((RX1.out.below hb (Nat.le_refl _)).mono hb.size)
    replace RX2 := hd ((RX2.out.below hb (Nat.le_refl _)).mono hb.size)
    clear hb
    have k0 := blk_cell HQ.out 0
    have k1 := blk_cell HQ.out 1
    have k2 := blk_cell HQ.out 2
    have k3 := blk_cell HQ.out 3
    have j0 := blk_cell HQ2.out 0
    have j1 := blk_cell HQ2.out 1
    have j2 := blk_cell HQ2.out 2
    have j3 := blk_cell HQ2.out 3
    have p0 := blk_cell HP.out 0
    have p1 := blk_cell HP.out 1
    have p2 := blk_cell HP.out 2
    have p3 := blk_cell HP.out 3
    simp at k0 k1 k2 k3 j0 j1 j2 j3 p0 p1 p2 p3
    have s0 := blk_cell HZ.out 0
    have s1 := blk_cell HZ.out 1
    have s2 := blk_cell HZ.out 2
    have s3 := blk_cell HZ.out 3
    simp at s0 s1 s2 s3
    go_wp2_with fail
    clear k0 k1 k2 k3 j0 j1 j2 j3 p0 p1 p2 p3
    clear s0 s1 s2 s3
    refine (RA.out _ RL.out RG.out RM.out RH.out).mono ?_
    rintro e a1 ⟨r1, r2, rfl, hr1, hr2, hb⟩
    obtain ⟨D3, e3, hv3, -⟩ := own_form hr1
    obtain ⟨D4, e4, hv4, -⟩ := own_form hr2
    subst hv3
    subst hv4
    have hlz := blk_lt HZ.out
    replace HY := hd (HY.out.trans (hb.mono (Nat.le_of_lt (blk_lt HZ.out))))
    have hne : P ≠ sz := by omega
    have hne' := hne.symm
    replace HQ := hd ((hb.block _ (blk_lt HQ.out)).trans HQ.out)
    replace HQ2 := hd ((hb.block _ (blk_lt HQ2.out)).trans HQ2.out)
    replace HP := hd ((hb.block _ (blk_lt HP.out)).trans HP.out)
    replace HZ := hd ((hb.block _ (blk_lt HZ.out)).trans HZ.out)
    replace HB := hd (HB.out.trans (hb.mono HB.out.size))
    replace RL := hd ((RL.out.below hb (Nat.le_refl _)).mono hb.size)
    replace RG := hd ((RG.out.below hb (Nat.le_refl _)).mono hb.size)
    replace RM := hd ((RM.out.below hb (Nat.le_refl _)).mono hb.size)
    replace RH := hd ((RH.out.below hb (Nat.le_refl _)).mono hb.size)
    replace RX1 := hd ((RX1.out.below hb (Nat.le_refl _)).mono hb.size)
    replace RX2 := hd ((RX2.out.below hb (Nat.le_refl _)).mono hb.size)
    clear hb
    have k0 := blk_cell HQ.out 0
    have k1 := blk_cell HQ.out 1
    have k2 := blk_cell HQ.out 2
    have k3 := blk_cell HQ.out 3
    have j0 := blk_cell HQ2.out 0
    have j1 := blk_cell HQ2.out 1
    have j2 := blk_cell HQ2.out 2
    have j3 := blk_cell HQ2.out 3
    have p0 := blk_cell HP.out 0
    have p1 := blk_cell HP.out 1
    have p2 := blk_cell HP.out 2
    have p3 := blk_cell HP.out 3
    simp at k0 k1 k2 k3 j0 j1 j2 j3 p0 p1 p2 p3
    have s0 := blk_cell HZ.out 0
    have s1 := blk_cell HZ.out 1
    have s2 := blk_cell HZ.out 2
    have s3 := blk_cell HZ.out 3
    simp at s0 s1 s2 s3
    have f0 := blk_frozen HZ.out 0
    have f1 := blk_frozen HZ.out 1
    have f2 := blk_frozen HZ.out 2
    have f3 := blk_frozen HZ.out 3
    go_wp2_with fail
    clear k0 k1 k2 k3 j0 j1 j2 j3 p0 p1 p2 p3
    clear s0 s1 s2 s3 f0 f1 f2 f3
    refine (told_ok nm st _ _ _ _ XL LB XG XG _ ?_ ?_ ?_ ?_ HLC.out (sameF_yes (fun x y : Int × Int => x == y) (0, 0) XG XG rfl (fun j _ => by simp))).mono ?_
    · exact (RB1.out.below (set4_below HY.out (R := sz) (Nat.le_refl _) (.string nm) (.int .i64 st) (.slice D3 LB.length e3) (.slice D4 XG.length e4)) (Nat.le_refl _)).mono (Nat.le_trans (Nat.le_of_lt (blk_lt HZ.out)) (set4_below (Below.refl sz a1) (R := sz) (Nat.le_refl _) (.string nm) (.int .i64 st) (.slice D3 LB.length e3) (.slice D4 XG.length e4)).size)
    · exact (RB2.out.below (set4_below HY.out (R := sz) (Nat.le_refl _) (.string nm) (.int .i64 st) (.slice D3 LB.length e3) (.slice D4 XG.length e4)) (Nat.le_refl _)).mono (Nat.le_trans (Nat.le_of_lt (blk_lt HZ.out)) (set4_below (Below.refl sz a1) (R := sz) (Nat.le_refl _) (.string nm) (.int .i64 st) (.slice D3 LB.length e3) (.slice D4 XG.length e4)).size)
    · exact rd_of_own (own_set4 (R := sz) (a := .string nm) (b := .int .i64 st) (c := .slice D3 LB.length e3) (d := .slice D4 XG.length e4) hr1 hlz)
    · exact rd_of_own (own_set4 (R := sz) (a := .string nm) (b := .int .i64 st) (c := .slice D3 LB.length e3) (d := .slice D4 XG.length e4) hr2 hlz)
    change ∀ e w', (_ ∧ Below (set4 a1 sz (.string nm) (.int .i64 st) (.slice D3 LB.length e3) (.slice D4 XG.length e4)).heap.size (set4 a1 sz (.string nm) (.int .i64 st) (.slice D3 LB.length e3) (.slice D4 XG.length e4)) w') → _
    rintro e a9 ⟨rfl, hb⟩
    have HBE := hd ((set4_below HB.out (R := sz) (by omega) (.string nm) (.int .i64 st) (.slice D3 LB.length e3) (.slice D4 XG.length e4)).trans (hb.mono (set4_below HB.out (R := sz) (by omega) (.string nm) (.int .i64 st) (.slice D3 LB.length e3) (.slice D4 XG.length e4)).size))
    clear hb
    go_wp2_with fail
    go_returns
    exact ⟨rfl, HBE.out⟩

set_option maxRecDepth 1000000 in
set_option maxHeartbeats 16000000 in
theorem appends_b1 (HA : Hid Awake) (nm nm2 : ByteArray) (st st2 : Int) (A A2 B B2 : Option Addr) (c c2 d d2 : Nat) (bs cs : List Nat) (gs hs : List (Int × Int)) (E1 E2 x1 : Int) (w : World)
    (HL : Hid (Rd w w.heap.size (.slice A bs.length c) bs.length (flc bs))) (HG : Hid (Rd w w.heap.size (.slice A2 gs.length c2) gs.length (spc gs))) (HL2 : Hid (Rd w w.heap.size (.slice B cs.length d) cs.length (flc cs))) (HG2 : Hid (Rd w w.heap.size (.slice B2 hs.length d2) hs.length (spc hs)))
    (FL : Hid (Full (.slice A bs.length c))) (FG : Hid (Full (.slice A2 gs.length c2))) (FL2 : Hid (Full (.slice B cs.length d))) (FG2 : Hid (Full (.slice B2 hs.length d2)))
    (S1 : Hid (shortR nm.size bs.length gs.length = true)) (S2 : Hid (shortR nm2.size cs.length hs.length = true)) (HN : Hid (bs.length ≤ 100000 ∧ gs.length ≤ 100000 ∧ cs.length ≤ 100000 ∧ hs.length ≤ 100000))
    (CR1 : Hid (∀ (W : World) (lv gv : Value), Rd W W.heap.size lv bs.length (flc bs) → Rd W W.heap.size gv gs.length (spc gs) → Calls Tryz.prog 12 #[.agg #[.string nm, .int .i64 st, lv, gv]] W fun e w' => e = .returned (.int .i64 E1) ∧ Below W.heap.size W w'))
    (CR2 : Hid (∀ (W : World) (lv gv : Value), Rd W W.heap.size lv cs.length (flc cs) → Rd W W.heap.size gv hs.length (spc hs) → Calls Tryz.prog 12 #[.agg #[.string nm2, .int .i64 st2, lv, gv]] W fun e w' => e = .returned (.int .i64 E2) ∧ Below W.heap.size W w'))
    (H1 : Hid (fst0 [E1, E2] = x1)) (h1 : (x1 == 0) = false)
    (GA : Hid (∀ (W : World) (u1 u2 u3 u4 : Value), Rd W W.heap.size u1 bs.length (flc bs) → Rd W W.heap.size u2 gs.length (spc gs) → Rd W W.heap.size u3 cs.length (flc cs) → Rd W W.heap.size u4 hs.length (spc hs) → Full u1 → Full u3 → Calls Tryz.prog 26 #[.agg #[.string nm, .int .i64 st, u1, u2], .agg #[.string nm2, .int .i64 st2, u3, u4]] W (fun e w' => e = .returned (.tuple #[.agg #[.string ⟨#[]⟩, .int .i64 0, .slice none 0 0, .slice none 0 0], .int .i64 x1]) ∧ Below W.heap.size W w'))) (hX : (x1 != 0) = true) :
    Calls Tryz.prog 5 #[.agg #[.string nm, .int .i64 st, .slice A bs.length c, .slice A2 gs.length c2], .agg #[.string nm2, .int .i64 st2, .slice B cs.length d, .slice B2 hs.length d2]] w fun e w' => e = .returned (.bool true) ∧ Below w.heap.size w w' := by
  have hb1 := ((Below.refl w.heap.size w).alloc (Nat.le_refl _) (Obj.cells #[.string nm, .int .i64 st, .slice A bs.length c, .slice A2 gs.length c2] 25)).alloc (by simp) (Obj.cells #[.string nm2, .int .i64 st2, .slice B cs.length d, .slice B2 hs.length d2] 25)
  have HQ := hd (show ((w.alloc (Obj.cells #[.string nm, .int .i64 st, .slice A bs.length c, .slice A2 gs.length c2] 25)).alloc (Obj.cells #[.string nm2, .int .i64 st2, .slice B cs.length d, .slice B2 hs.length d2] 25)).heap[w.heap.size]? = some (.cells #[.string nm, .int .i64 st, .slice A bs.length c, .slice A2 gs.length c2] 25 (0, 0)) from (Below.heap_alloc _ _ _ (by simp)).trans (blk_new _ _ _))
  have HQ2 := hd (show ((w.alloc (Obj.cells #[.string nm, .int .i64 st, .slice A bs.length c, .slice A2 gs.length c2] 25)).alloc (Obj.cells #[.string nm2, .int .i64 st2, .slice B cs.length d, .slice B2 hs.length d2] 25)).heap[w.heap.size + 1]? = some (.cells #[.string nm2, .int .i64 st2, .slice B cs.length d, .slice B2 hs.length d2] 25 (0, 0)) from by have h := blk_new (w.alloc (Obj.cells #[.string nm, .int .i64 st, .slice A bs.length c, .slice A2 gs.length c2] 25)) #[.string nm2, .int .i64 st2, .slice B cs.length d, .slice B2 hs.length d2] 25; rw [World.size_alloc] at h; exact h)
  have HB := hd hb1
  have RL := hd ((HL.out.below hb1 (Nat.le_refl _)).mono hb1.size)
  have RG := hd ((HG.out.below hb1 (Nat.le_refl _)).mono hb1.size)
  have RM := hd ((HL2.out.below hb1 (Nat.le_refl _)).mono hb1.size)
  have RH := hd ((HG2.out.below hb1 (Nat.le_refl _)).mono hb1.size)
  clear hb1
  go_enter Tryz.func5, Tryz.ntmps5
  go_wp2_with fail
  generalize ((w.alloc (Obj.cells #[.string nm, .int .i64 st, .slice A bs.length c, .slice A2 gs.length c2] 25)).alloc (Obj.cells #[.string nm2, .int .i64 st2, .slice B cs.length d, .slice B2 hs.length d2] 25)) = W1 at *
  refine (HA.out _).mono ?_
  rintro e z0 ⟨rfl, hb⟩
  replace HQ := hd ((hb.block _ (blk_lt HQ.out)).trans HQ.out)
  replace HQ2 := hd ((hb.block _ (blk_lt HQ2.out)).trans HQ2.out)
  replace HB := hd (HB.out.trans (hb.mono HB.out.size))
  replace RL := hd ((RL.out.below hb (Nat.le_refl _)).mono hb.size)
  replace RG := hd ((RG.out.below hb (Nat.le_refl _)).mono hb.size)
  replace RM := hd ((RM.out.below hb (Nat.le_refl _)).mono hb.size)
  replace RH := hd ((RH.out.below hb (Nat.le_refl _)).mono hb.size)
  clear hb
  have k0 := blk_cell HQ.out 0
  have k1 := blk_cell HQ.out 1
  have k2 := blk_cell HQ.out 2
  have k3 := blk_cell HQ.out 3
  have k4 := blk_cell HQ2.out 0
  have k5 := blk_cell HQ2.out 1
  have k6 := blk_cell HQ2.out 2
  have k7 := blk_cell HQ2.out 3
  simp at k0 k1 k2 k3 k4 k5 k6 k7
  go_wp2_with fail
  refine (short_any nm st A A2 bs.length c gs.length c2 _).mono ?_
  rw [S1.out]
  rintro e z1 ⟨rfl, hb⟩
  replace HQ := hd ((hb.block _ (blk_lt HQ.out)).trans HQ.out)
  replace HQ2 := hd ((hb.block _ (blk_lt HQ2.out)).trans HQ2.out)
  replace HB := hd (HB.out.trans (hb.mono HB.out.size))
  replace RL := hd ((RL.out.below hb (Nat.le_refl _)).mono hb.size)
  replace RG := hd ((RG.out.below hb (Nat.le_refl _)).mono hb.size)
  replace RM := hd ((RM.out.below hb (Nat.le_refl _)).mono hb.size)
  replace RH := hd ((RH.out.below hb (Nat.le_refl _)).mono hb.size)
  clear hb
  clear k0 k1 k2 k3 k4 k5 k6 k7
  have k0 := blk_cell HQ.out 0
  have k1 := blk_cell HQ.out 1
  have k2 := blk_cell HQ.out 2
  have k3 := blk_cell HQ.out 3
  have k4 := blk_cell HQ2.out 0
  have k5 := blk_cell HQ2.out 1
  have k6 := blk_cell HQ2.out 2
  have k7 := blk_cell HQ2.out 3
  simp at k0 k1 k2 k3 k4 k5 k6 k7
  go_wp2_with fail
  refine (short_any nm2 st2 B B2 cs.length d hs.length d2 _).mono ?_
  rw [S2.out]
  rintro e z2 ⟨rfl, hb⟩
  replace HQ := hd ((hb.block _ (blk_lt HQ.out)).trans HQ.out)
  replace HQ2 := hd ((hb.block _ (blk_lt HQ2.out)).trans HQ2.out)
  replace HB := hd (HB.out.trans (hb.mono HB.out.size))
  replace RL := hd ((RL.out.below hb (Nat.le_refl _)).mono hb.size)
  replace RG := hd ((RG.out.below hb (Nat.le_refl _)).mono hb.size)
  replace RM := hd ((RM.out.below hb (Nat.le_refl _)).mono hb.size)
  replace RH := hd ((RH.out.below hb (Nat.le_refl _)).mono hb.size)
  clear hb
  clear k0 k1 k2 k3 k4 k5 k6 k7
  have HRA := hd (fun (X : World) (hb : Below z2.heap.size z2 X) => lawRecord_any nm st _ _ bs gs X ((RL.out.below hb (Nat.le_refl _)).mono hb.size) ((RG.out.below hb (Nat.le_refl _)).mono hb.size) FL.out FG.out HN.out.1 HN.out.2.1)
  have HRB := hd (fun (X : World) (hb : Below z2.heap.size z2 X) => lawRecord_any nm2 st2 _ _ cs hs X ((RM.out.below hb (Nat.le_refl _)).mono hb.size) ((RH.out.below hb (Nat.le_refl _)).mono hb.size) FL2.out FG2.out HN.out.2.2.1 HN.out.2.2.2)
  have k0 := blk_cell HQ.out 0
  have k1 := blk_cell HQ.out 1
  have k2 := blk_cell HQ.out 2
  have k3 := blk_cell HQ.out 3
  have k4 := blk_cell HQ2.out 0
  have k5 := blk_cell HQ2.out 1
  have k6 := blk_cell HQ2.out 2
  have k7 := blk_cell HQ2.out 3
  simp at k0 k1 k2 k3 k4 k5 k6 k7
  have HVS := hd (show w.heap.size + 2 ≤ z2.heap.size from by have := blk_lt HQ2.out; omega)
  have hn0 : z2.heap.size ≠ w.heap.size := by have := HVS.out; omega
  have hn0' := hn0.symm
  have hn1 : z2.heap.size ≠ w.heap.size + 1 := by have := HVS.out; omega
  have hn1' := hn1.symm
  go_wp2_with fail
  go_cut [5, 6] from 22 (fun s5 s6 wx => ∃ (P : Nat), s5 = .pointer (some ⟨P, 0, none⟩) ∧ s6 = .int .i64 x1 ∧ Hid (Below z2.heap.size z2 wx ∧ wx.heap[P]? = some (Obj.cells #[.string ⟨#[]⟩, .int .i64 0, .slice none 0 0, .slice none 0 0] 29 (0, 0))))
  case first =>
    go_region_held3 (fun x => x.cell? ⟨w.heap.size, 0, none⟩ = some (.string nm) ∧ x.cell? ⟨w.heap.size, 1, none⟩ = some (.int .i64 st) ∧ x.cell? ⟨w.heap.size, 2, none⟩ = some (.slice A bs.length c) ∧ x.cell? ⟨w.heap.size, 3, none⟩ = some (.slice A2 gs.length c2) ∧ x.cell? ⟨w.heap.size + 1, 0, none⟩ = some (.string nm2) ∧ x.cell? ⟨w.heap.size + 1, 1, none⟩ = some (.int .i64 st2) ∧ x.cell? ⟨w.heap.size + 1, 2, none⟩ = some (.slice B cs.length d) ∧ x.cell? ⟨w.heap.size + 1, 3, none⟩ = some (.slice B2 hs.length d2)) (go_keep)
      (first | (go_at_call 10; revert UA; intro UA; refine (HRB.out _ (by first | exact HXy1.out | exact HXy1.out.alloc HXy1.out.size _ | exact HXy1.out.drew | exact (HXy1.out.alloc HXy1.out.size _).drew)).mono ?_; rintro e y2 ⟨u3, u4, rfl, hu3, hu4, hf3, -, hb⟩; have HZ2 := hd (show Below y1.heap.size y1 y2 from by first | exact hb | exact ((Below.refl _ y1).alloc (Nat.le_refl _) _).trans (hb.mono (by simp))); have HXy2 := hd (HXy1.out.trans (HZ2.out.mono HXy1.out.size)); have hqy2 := (HXy2.out.block _ (blk_lt HQ.out)).trans HQ.out; have hpy2 := (HXy2.out.block _ (blk_lt HQ2.out)).trans HQ2.out; have M0 := blk_cell hqy2 0; have M1 := blk_cell hqy2 1; have M2 := blk_cell hqy2 2; have M3 := blk_cell hqy2 3; have M4 := blk_cell hpy2 0; have M5 := blk_cell hpy2 1; have M6 := blk_cell hpy2 2; have M7 := blk_cell hpy2 3; simp at M0 M1 M2 M3 M4 M5 M6 M7; clear hqy2 hpy2; have hsy2 := HXy2.out.size; have hay2 : y2.heap.size ≠ w.heap.size := (by have := HVS.out; omega); have hay2' := hay2.symm; have hcy2 : y2.heap.size ≠ w.heap.size + 1 := (by have := HVS.out; omega); have hcy2' := hcy2.symm; (first | (have hP : y2.heap[y1.heap.size]? = some (Obj.cells #[.string ⟨#[]⟩, .int .i64 0, .slice none 0 0, .slice none 0 0] 29 (0, 0)) := (hb.block _ (show y1.heap.size < (y1.alloc (Obj.cells #[.string ⟨#[]⟩, .int .i64 0, .slice none 0 0, .slice none 0 0] 29)).heap.size by simp)).trans (blk_new y1 #[.string ⟨#[]⟩, .int .i64 0, .slice none 0 0, .slice none 0 0] 29); have Mp0 := blk_cell hP 0; have Mp1 := blk_cell hP 1; have Mp2 := blk_cell hP 2; have Mp3 := blk_cell hP 3; simp at Mp0 Mp1 Mp2 Mp3; have Mf0 := blk_frozen hP 0; have Mf1 := blk_frozen hP 1; have Mf2 := blk_frozen hP 2; have Mf3 := blk_frozen hP 3; have HPB := hd hP; clear hP) | (have hP := (HZ2.out.block _ (blk_lt HPA.out)).trans HPA.out; have Mp0 := blk_cell hP 0; have Mp1 := blk_cell hP 1; have Mp2 := blk_cell hP 2; have Mp3 := blk_cell hP 3; simp at Mp0 Mp1 Mp2 Mp3; have Mf0 := blk_frozen hP 0; have Mf1 := blk_frozen hP 1; have Mf2 := blk_frozen hP 2; have Mf3 := blk_frozen hP 3; have HPB := hd hP; clear hP) | skip); have UB := hd (And.intro hu3 (And.intro hu4 hf3)); clear hu3 hu4 hf3 hb) | (go_at_call 10; refine (HRA.out _ (by first | exact (Below.refl _ z2).drew | exact ((Below.refl _ z2).alloc (Nat.le_refl _) _).drew | exact Below.refl _ z2)).mono ?_; rintro e y1 ⟨u1, u2, rfl, hu1, hu2, hf1, -, hb⟩; have HXy1 := hd (show Below z2.heap.size z2 y1 from by first | exact (Below.refl _ z2).drew.trans hb | exact (((Below.refl _ z2).alloc (Nat.le_refl _) _).drew).trans (hb.mono (Nat.le_of_lt (show z2.heap.size < (z2.alloc (Obj.cells #[.string ⟨#[]⟩, .int .i64 0, .slice none 0 0, .slice none 0 0] 29)).heap.size by simp)))); have hqy1 := (HXy1.out.block _ (blk_lt HQ.out)).trans HQ.out; have hpy1 := (HXy1.out.block _ (blk_lt HQ2.out)).trans HQ2.out; have N0 := blk_cell hqy1 0; have N1 := blk_cell hqy1 1; have N2 := blk_cell hqy1 2; have N3 := blk_cell hqy1 3; have N4 := blk_cell hpy1 0; have N5 := blk_cell hpy1 1; have N6 := blk_cell hpy1 2; have N7 := blk_cell hpy1 3; simp at N0 N1 N2 N3 N4 N5 N6 N7; clear hqy1 hpy1; have hsy1 := HXy1.out.size; have hay1 : y1.heap.size ≠ w.heap.size := (by have := HVS.out; omega); have hay1' := hay1.symm; have hcy1 : y1.heap.size ≠ w.heap.size + 1 := (by have := HVS.out; omega); have hcy1' := hcy1.symm; (first | (have hP : y1.heap[z2.heap.size]? = some (Obj.cells #[.string ⟨#[]⟩, .int .i64 0, .slice none 0 0, .slice none 0 0] 29 (0, 0)) := (hb.block _ (show z2.heap.size < (z2.alloc (Obj.cells #[.string ⟨#[]⟩, .int .i64 0, .slice none 0 0, .slice none 0 0] 29)).heap.size by simp)).trans (blk_new z2 #[.string ⟨#[]⟩, .int .i64 0, .slice none 0 0, .slice none 0 0] 29); have Np0 := blk_cell hP 0; have Np1 := blk_cell hP 1; have Np2 := blk_cell hP 2; have Np3 := blk_cell hP 3; simp at Np0 Np1 Np2 Np3; have Nf0 := blk_frozen hP 0; have Nf1 := blk_frozen hP 1; have Nf2 := blk_frozen hP 2; have Nf3 := blk_frozen hP 3; have HPA := hd hP; clear hP) | skip); have UA := hd (And.intro hu1 (And.intro hu2 hf1)); clear hu1 hu2 hf1 hb) | (go_at_call 26; refine (GA.out _ _ _ _ _ (by first | exact ((UA.out.1.below HZ2.out (Nat.le_refl _)).mono HZ2.out.size) | exact (((UA.out.1.below HZ2.out (Nat.le_refl _)).mono HZ2.out.size).below ((Below.refl _ y2).alloc (Nat.le_refl _) _) (Nat.le_refl _)).mono (by simp)) (by first | exact ((UA.out.2.1.below HZ2.out (Nat.le_refl _)).mono HZ2.out.size) | exact (((UA.out.2.1.below HZ2.out (Nat.le_refl _)).mono HZ2.out.size).below ((Below.refl _ y2).alloc (Nat.le_refl _) _) (Nat.le_refl _)).mono (by simp)) (by first | exact UB.out.1 | exact (UB.out.1.below ((Below.refl _ y2).alloc (Nat.le_refl _) _) (Nat.le_refl _)).mono (by simp)) (by first | exact UB.out.2.1 | exact (UB.out.2.1.below ((Below.refl _ y2).alloc (Nat.le_refl _) _) (Nat.le_refl _)).mono (by simp)) UA.out.2.2 UB.out.2.2).mono ?_; rintro e y3 ⟨rfl, hb⟩; have HZ3 := hd (show Below y2.heap.size y2 y3 from by first | exact hb | exact ((Below.refl _ y2).alloc (Nat.le_refl _) _).trans (hb.mono (by simp))); have HXy3 := hd (HXy2.out.trans (HZ3.out.mono HXy2.out.size)); have hqy3 := (HXy3.out.block _ (blk_lt HQ.out)).trans HQ.out; have hpy3 := (HXy3.out.block _ (blk_lt HQ2.out)).trans HQ2.out; have J0 := blk_cell hqy3 0; have J1 := blk_cell hqy3 1; have J2 := blk_cell hqy3 2; have J3 := blk_cell hqy3 3; have J4 := blk_cell hpy3 0; have J5 := blk_cell hpy3 1; have J6 := blk_cell hpy3 2; have J7 := blk_cell hpy3 3; simp at J0 J1 J2 J3 J4 J5 J6 J7; clear hqy3 hpy3; have hsy3 := HXy3.out.size; have hay3 : y3.heap.size ≠ w.heap.size := (by have := HVS.out; omega); have hay3' := hay3.symm; have hcy3 : y3.heap.size ≠ w.heap.size + 1 := (by have := HVS.out; omega); have hcy3' := hcy3.symm; (first | (have hP : y3.heap[y2.heap.size]? = some (Obj.cells #[.string ⟨#[]⟩, .int .i64 0, .slice none 0 0, .slice none 0 0] 29 (0, 0)) := (hb.block _ (show y2.heap.size < (y2.alloc (Obj.cells #[.string ⟨#[]⟩, .int .i64 0, .slice none 0 0, .slice none 0 0] 29)).heap.size by simp)).trans (blk_new y2 #[.string ⟨#[]⟩, .int .i64 0, .slice none 0 0, .slice none 0 0] 29); have Jp0 := blk_cell hP 0; have Jp1 := blk_cell hP 1; have Jp2 := blk_cell hP 2; have Jp3 := blk_cell hP 3; simp at Jp0 Jp1 Jp2 Jp3; have Jf0 := blk_frozen hP 0; have Jf1 := blk_frozen hP 1; have Jf2 := blk_frozen hP 2; have Jf3 := blk_frozen hP 3; have HPC := hd hP; clear hP) | (have hP := (HZ3.out.block _ (blk_lt HPB.out)).trans HPB.out; have Jp0 := blk_cell hP 0; have Jp1 := blk_cell hP 1; have Jp2 := blk_cell hP 2; have Jp3 := blk_cell hP 3; simp at Jp0 Jp1 Jp2 Jp3; have Jf0 := blk_frozen hP 0; have Jf1 := blk_frozen hP 1; have Jf2 := blk_frozen hP 2; have Jf3 := blk_frozen hP 3; have HPC := hd hP; clear hP) | skip); clear hb))
    all_goals
      go_wp2_with fail
      go_meet
      first
        | exact ⟨_, rfl, rfl, hd ⟨HXy3.out.alloc HXy3.out.size _, blk_new _ _ _⟩⟩
        | exact ⟨_, rfl, rfl, hd ⟨set4_below HXy3.out (by first | exact Nat.le_refl _ | exact HXy1.out.size | exact HXy2.out.size) _ _ _ _, set4_blk HPC.out _ _ _ _⟩⟩
  case rest =>
    obtain ⟨P, rfl, rfl, HC⟩ := hcut
    have hb := HC.out.1
    have HP := hd HC.out.2
    clear HC HRA HRB k0 k1 k2 k3 k4 k5 k6 k7 hn0 hn0' hn1 hn1' HVS
    replace HQ := hd ((hb.block _ (blk_lt HQ.out)).trans HQ.out)
    replace HQ2 := hd ((hb.block _ (blk_lt HQ2.out)).trans HQ2.out)
    replace HB := hd (HB.out.trans (hb.mono HB.out.size))
    replace RL := hd ((RL.out.below hb (Nat.le_refl _)).mono hb.size)
    replace RG := hd ((RG.out.below hb (Nat.le_refl _)).mono hb.size)
    replace RM := hd ((RM.out.below hb (Nat.le_refl _)).mono hb.size)
    replace RH := hd ((RH.out.below hb (Nat.le_refl _)).mono hb.size)
    clear hb
    obtain ⟨Y, rfl⟩ : ∃ x : World, x = wc := ⟨_, rfl⟩
    have k0 := blk_cell HQ.out 0
    have k1 := blk_cell HQ.out 1
    have k2 := blk_cell HQ.out 2
    have k3 := blk_cell HQ.out 3
    have k4 := blk_cell HQ2.out 0
    have k5 := blk_cell HQ2.out 1
    have k6 := blk_cell HQ2.out 2
    have k7 := blk_cell HQ2.out 3
    simp at k0 k1 k2 k3 k4 k5 k6 k7
    go_wp2_with fail
    go_region_held3 (fun x => x.cell? ⟨w.heap.size, 0, none⟩ = some (.string nm) ∧ x.cell? ⟨w.heap.size, 1, none⟩ = some (.int .i64 st) ∧ x.cell? ⟨w.heap.size, 2, none⟩ = some (.slice A bs.length c) ∧ x.cell? ⟨w.heap.size, 3, none⟩ = some (.slice A2 gs.length c2) ∧ x.cell? ⟨w.heap.size + 1, 0, none⟩ = some (.string nm2) ∧ x.cell? ⟨w.heap.size + 1, 1, none⟩ = some (.int .i64 st2) ∧ x.cell? ⟨w.heap.size + 1, 2, none⟩ = some (.slice B cs.length d) ∧ x.cell? ⟨w.heap.size + 1, 3, none⟩ = some (.slice B2 hs.length d2)) (go_keep) (first | (go_at_call 12; revert HXv1; intro HXv1; refine (CR2.out _ _ _ ((RM.out.below HXv1.out (Nat.le_refl _)).mono HXv1.out.size) ((RH.out.below HXv1.out (Nat.le_refl _)).mono HXv1.out.size)).mono ?_; rintro e v2 ⟨rfl, hb⟩; have HXv2 := hd (HXv1.out.trans (hb.mono HXv1.out.size)); have hqv2 := (HXv2.out.block _ (blk_lt HQ.out)).trans HQ.out; have hpv2 := (HXv2.out.block _ (blk_lt HQ2.out)).trans HQ2.out; have M0 := blk_cell hqv2 0; have M1 := blk_cell hqv2 1; have M2 := blk_cell hqv2 2; have M3 := blk_cell hqv2 3; have M4 := blk_cell hpv2 0; have M5 := blk_cell hpv2 1; have M6 := blk_cell hpv2 2; have M7 := blk_cell hpv2 3; simp at M0 M1 M2 M3 M4 M5 M6 M7; clear hqv2 hpv2; clear hb) | (go_at_call 12; refine (CR1.out _ _ _ ((RL.out.below (Below.refl Y.heap.size Y).drew (Nat.le_refl _)).mono (Below.refl Y.heap.size Y).drew.size) ((RG.out.below (Below.refl Y.heap.size Y).drew (Nat.le_refl _)).mono (Below.refl Y.heap.size Y).drew.size)).mono ?_; rintro e v1 ⟨rfl, hb⟩; have HXv1 := hd (show Below Y.heap.size Y v1 from (Below.refl Y.heap.size Y).drew.trans hb); have hqv1 := (HXv1.out.block _ (blk_lt HQ.out)).trans HQ.out; have hpv1 := (HXv1.out.block _ (blk_lt HQ2.out)).trans HQ2.out; have N0 := blk_cell hqv1 0; have N1 := blk_cell hqv1 1; have N2 := blk_cell hqv1 2; have N3 := blk_cell hqv1 3; have N4 := blk_cell hpv1 0; have N5 := blk_cell hpv1 1; have N6 := blk_cell hpv1 2; have N7 := blk_cell hpv1 3; simp at N0 N1 N2 N3 N4 N5 N6 N7; clear hqv1 hpv1; clear hb) | (go_at_call 11; refine (lawFirst_any _ [E1, E2] _ (Rd.new v2 #[.int .i64 E1, .int .i64 E2] 3 2 ([E1, E2].map (Value.int .i64)) rfl (by decide))).mono ?_; rw [H1.out]; rintro e v3 ⟨rfl, rfl⟩))
    clear k0 k1 k2 k3 k4 k5 k6 k7
    have hb := HXv2.out.alloc HXv2.out.size (Obj.cells #[.int .i64 E1, .int .i64 E2] 3)
    replace HQ := hd ((hb.block _ (blk_lt HQ.out)).trans HQ.out)
    replace HQ2 := hd ((hb.block _ (blk_lt HQ2.out)).trans HQ2.out)
    replace HP := hd ((hb.block _ (blk_lt HP.out)).trans HP.out)
    replace HB := hd (HB.out.trans (hb.mono HB.out.size))
    replace RL := hd ((RL.out.below hb (Nat.le_refl _)).mono hb.size)
    replace RG := hd ((RG.out.below hb (Nat.le_refl _)).mono hb.size)
    replace RM := hd ((RM.out.below hb (Nat.le_refl _)).mono hb.size)
    replace RH := hd ((RH.out.below hb (Nat.le_refl _)).mono hb.size)
    clear hb
    clear HXv1 HXv2 N0 M0 N1 M1 N2 M2 N3 M3 N4 M4 N5 M5 N6 M6 N7 M7
    generalize v2.alloc (Obj.cells #[.int .i64 E1, .int .i64 E2] 3) = W4 at *
    have k0 := cell_alloc_old (o := (Obj.cells #[.string ⟨#[]⟩, .int .i64 0, .slice none 0 0, .slice none 0 0] 25)) (u := _) ((blk_cell HQ.out 0).trans rfl)
    have k1 := cell_alloc_old (o := (Obj.cells #[.string ⟨#[]⟩, .int .i64 0, .slice none 0 0, .slice none 0 0] 25)) (u := _) ((blk_cell HQ.out 1).trans rfl)
    have k2 := cell_alloc_old (o := (Obj.cells #[.string ⟨#[]⟩, .int .i64 0, .slice none 0 0, .slice none 0 0] 25)) (u := _) ((blk_cell HQ.out 2).trans rfl)
    have k3 := cell_alloc_old (o := (Obj.cells #[.string ⟨#[]⟩, .int .i64 0, .slice none 0 0, .slice none 0 0] 25)) (u := _) ((blk_cell HQ.out 3).trans rfl)
    have j0 := cell_alloc_old (o := (Obj.cells #[.string ⟨#[]⟩, .int .i64 0, .slice none 0 0, .slice none 0 0] 25)) (u := _) ((blk_cell HQ2.out 0).trans rfl)
    have j1 := cell_alloc_old (o := (Obj.cells #[.string ⟨#[]⟩, .int .i64 0, .slice none 0 0, .slice none 0 0] 25)) (u := _) ((blk_cell HQ2.out 1).trans rfl)
    have j2 := cell_alloc_old (o := (Obj.cells #[.string ⟨#[]⟩, .int .i64 0, .slice none 0 0, .slice none 0 0] 25)) (u := _) ((blk_cell HQ2.out 2).trans rfl)
    have j3 := cell_alloc_old (o := (Obj.cells #[.string ⟨#[]⟩, .int .i64 0, .slice none 0 0, .slice none 0 0] 25)) (u := _) ((blk_cell HQ2.out 3).trans rfl)
    have p0 := cell_alloc_old (o := (Obj.cells #[.string ⟨#[]⟩, .int .i64 0, .slice none 0 0, .slice none 0 0] 25)) (u := _) ((blk_cell HP.out 0).trans rfl)
    have p1 := cell_alloc_old (o := (Obj.cells #[.string ⟨#[]⟩, .int .i64 0, .slice none 0 0, .slice none 0 0] 25)) (u := _) ((blk_cell HP.out 1).trans rfl)
    have p2 := cell_alloc_old (o := (Obj.cells #[.string ⟨#[]⟩, .int .i64 0, .slice none 0 0, .slice none 0 0] 25)) (u := _) ((blk_cell HP.out 2).trans rfl)
    have p3 := cell_alloc_old (o := (Obj.cells #[.string ⟨#[]⟩, .int .i64 0, .slice none 0 0, .slice none 0 0] 25)) (u := _) ((blk_cell HP.out 3).trans rfl)
    go_wp2_with fail
    clear k0 k1 k2 k3 j0 j1 j2 j3 p0 p1 p2 p3
    have hlt1 := blk_lt HQ2.out
    have hlt2 := blk_lt HP.out
    have hb := (Below.refl W4.heap.size W4).alloc (Nat.le_refl _) (Obj.cells #[.string ⟨#[]⟩, .int .i64 0, .slice none 0 0, .slice none 0 0] 25)
    have HZ := hd (blk_new W4 #[.string ⟨#[]⟩, .int .i64 0, .slice none 0 0, .slice none 0 0] 25)
    replace HQ := hd ((hb.block _ (blk_lt HQ.out)).trans HQ.out)
    replace HQ2 := hd ((hb.block _ (blk_lt HQ2.out)).trans HQ2.out)
    replace HP := hd ((hb.block _ (blk_lt HP.out)).trans HP.out)
    replace HB := hd (HB.out.trans (hb.mono HB.out.size))
    replace RL := hd ((RL.out.below hb (Nat.le_refl _)).mono hb.size)
    replace RG := hd ((RG.out.below hb (Nat.le_refl _)).mono hb.size)
    replace RM := hd ((RM.out.below hb (Nat.le_refl _)).mono hb.size)
    replace RH := hd ((RH.out.below hb (Nat.le_refl _)).mono hb.size)
    clear hb
    generalize hsz : W4.heap.size = sz at *
    generalize W4.alloc (Obj.cells #[.string ⟨#[]⟩, .int .i64 0, .slice none 0 0, .slice none 0 0] 25) = W5 at *
    clear hsz
    refine (told_bad x1 ⟨#[]⟩ 0 none none 0 0 0 0 _ hX).mono ?_
    rintro e a9 ⟨rfl, hb⟩
    have HBE := hd (HB.out.trans (hb.mono HB.out.size))
    clear hb
    go_wp2_with fail
    go_returns
    exact ⟨rfl, HBE.out⟩

set_option maxRecDepth 1000000 in
set_option maxHeartbeats 16000000 in
theorem appends_b2 (HA : Hid Awake) (nm nm2 : ByteArray) (st st2 : Int) (A A2 B B2 : Option Addr) (c c2 d d2 : Nat) (bs cs : List Nat) (gs hs : List (Int × Int)) (E1 E2 x1 x2 : Int) (w : World)
    (HL : Hid (Rd w w.heap.size (.slice A bs.length c) bs.length (flc bs))) (HG : Hid (Rd w w.heap.size (.slice A2 gs.length c2) gs.length (spc gs))) (HL2 : Hid (Rd w w.heap.size (.slice B cs.length d) cs.length (flc cs))) (HG2 : Hid (Rd w w.heap.size (.slice B2 hs.length d2) hs.length (spc hs)))
    (FL : Hid (Full (.slice A bs.length c))) (FG : Hid (Full (.slice A2 gs.length c2))) (FL2 : Hid (Full (.slice B cs.length d))) (FG2 : Hid (Full (.slice B2 hs.length d2)))
    (S1 : Hid (shortR nm.size bs.length gs.length = true)) (S2 : Hid (shortR nm2.size cs.length hs.length = true)) (HN : Hid (bs.length ≤ 100000 ∧ gs.length ≤ 100000 ∧ cs.length ≤ 100000 ∧ hs.length ≤ 100000))
    (CR1 : Hid (∀ (W : World) (lv gv : Value), Rd W W.heap.size lv bs.length (flc bs) → Rd W W.heap.size gv gs.length (spc gs) → Calls Tryz.prog 12 #[.agg #[.string nm, .int .i64 st, lv, gv]] W fun e w' => e = .returned (.int .i64 E1) ∧ Below W.heap.size W w'))
    (CR2 : Hid (∀ (W : World) (lv gv : Value), Rd W W.heap.size lv cs.length (flc cs) → Rd W W.heap.size gv hs.length (spc hs) → Calls Tryz.prog 12 #[.agg #[.string nm2, .int .i64 st2, lv, gv]] W fun e w' => e = .returned (.int .i64 E2) ∧ Below W.heap.size W w'))
    (H1 : Hid (fst0 [E1, E2] = x1)) (h1 : (x1 == 0) = true)
    (GA : Hid (∀ (W : World) (u1 u2 u3 u4 : Value), Rd W W.heap.size u1 bs.length (flc bs) → Rd W W.heap.size u2 gs.length (spc gs) → Rd W W.heap.size u3 cs.length (flc cs) → Rd W W.heap.size u4 hs.length (spc hs) → Full u1 → Full u3 → Calls Tryz.prog 26 #[.agg #[.string nm, .int .i64 st, u1, u2], .agg #[.string nm2, .int .i64 st2, u3, u4]] W (fun e w' => e = .returned (.tuple #[.agg #[.string ⟨#[]⟩, .int .i64 0, .slice none 0 0, .slice none 0 0], .int .i64 x2]) ∧ Below W.heap.size W w')))
    (CA : Hid (∀ (W : World), Calls Tryz.prog 27 #[.agg #[.string nm, .int .i64 st, .slice A bs.length c, .slice A2 gs.length c2], .agg #[.string nm2, .int .i64 st2, .slice B cs.length d, .slice B2 hs.length d2]] W fun e w' => e = .returned (.int .i64 x2) ∧ Below W.heap.size W w')) (h2 : (x2 == 0) = false) (hX : (x2 != 0) = true) :
    Calls Tryz.prog 5 #[.agg #[.string nm, .int .i64 st, .slice A bs.length c, .slice A2 gs.length c2], .agg #[.string nm2, .int .i64 st2, .slice B cs.length d, .slice B2 hs.length d2]] w fun e w' => e = .returned (.bool true) ∧ Below w.heap.size w w' := by
  obtain rfl : x1 = 0 := by simpa using h1
  have hb1 := ((Below.refl w.heap.size w).alloc (Nat.le_refl _) (Obj.cells #[.string nm, .int .i64 st, .slice A bs.length c, .slice A2 gs.length c2] 25)).alloc (by simp) (Obj.cells #[.string nm2, .int .i64 st2, .slice B cs.length d, .slice B2 hs.length d2] 25)
  have HQ := hd (show ((w.alloc (Obj.cells #[.string nm, .int .i64 st, .slice A bs.length c, .slice A2 gs.length c2] 25)).alloc (Obj.cells #[.string nm2, .int .i64 st2, .slice B cs.length d, .slice B2 hs.length d2] 25)).heap[w.heap.size]? = some (.cells #[.string nm, .int .i64 st, .slice A bs.length c, .slice A2 gs.length c2] 25 (0, 0)) from (Below.heap_alloc _ _ _ (by simp)).trans (blk_new _ _ _))
  have HQ2 := hd (show ((w.alloc (Obj.cells #[.string nm, .int .i64 st, .slice A bs.length c, .slice A2 gs.length c2] 25)).alloc (Obj.cells #[.string nm2, .int .i64 st2, .slice B cs.length d, .slice B2 hs.length d2] 25)).heap[w.heap.size + 1]? = some (.cells #[.string nm2, .int .i64 st2, .slice B cs.length d, .slice B2 hs.length d2] 25 (0, 0)) from by have h := blk_new (w.alloc (Obj.cells #[.string nm, .int .i64 st, .slice A bs.length c, .slice A2 gs.length c2] 25)) #[.string nm2, .int .i64 st2, .slice B cs.length d, .slice B2 hs.length d2] 25; rw [World.size_alloc] at h; exact h)
  have HB := hd hb1
  have RL := hd ((HL.out.below hb1 (Nat.le_refl _)).mono hb1.size)
  have RG := hd ((HG.out.below hb1 (Nat.le_refl _)).mono hb1.size)
  have RM := hd ((HL2.out.below hb1 (Nat.le_refl _)).mono hb1.size)
  have RH := hd ((HG2.out.below hb1 (Nat.le_refl _)).mono hb1.size)
  clear hb1
  go_enter Tryz.func5, Tryz.ntmps5
  go_wp2_with fail
  generalize ((w.alloc (Obj.cells #[.string nm, .int .i64 st, .slice A bs.length c, .slice A2 gs.length c2] 25)).alloc (Obj.cells #[.string nm2, .int .i64 st2, .slice B cs.length d, .slice B2 hs.length d2] 25)) = W1 at *
  refine (HA.out _).mono ?_
  rintro e z0 ⟨rfl, hb⟩
  replace HQ := hd ((hb.block _ (blk_lt HQ.out)).trans HQ.out)
  replace HQ2 := hd ((hb.block _ (blk_lt HQ2.out)).trans HQ2.out)
  replace HB := hd (HB.out.trans (hb.mono HB.out.size))
  replace RL := hd ((RL.out.below hb (Nat.le_refl _)).mono hb.size)
  replace RG := hd ((RG.out.below hb (Nat.le_refl _)).mono hb.size)
  replace RM := hd ((RM.out.below hb (Nat.le_refl _)).mono hb.size)
  replace RH := hd ((RH.out.below hb (Nat.le_refl _)).mono hb.size)
  clear hb
  have k0 := blk_cell HQ.out 0
  have k1 := blk_cell HQ.out 1
  have k2 := blk_cell HQ.out 2
  have k3 := blk_cell HQ.out 3
  have k4 := blk_cell HQ2.out 0
  have k5 := blk_cell HQ2.out 1
  have k6 := blk_cell HQ2.out 2
  have k7 := blk_cell HQ2.out 3
  simp at k0 k1 k2 k3 k4 k5 k6 k7
  go_wp2_with fail
  refine (short_any nm st A A2 bs.length c gs.length c2 _).mono ?_
  rw [S1.out]
  rintro e z1 ⟨rfl, hb⟩
  replace HQ := hd ((hb.block _ (blk_lt HQ.out)).trans HQ.out)
  replace HQ2 := hd ((hb.block _ (blk_lt HQ2.out)).trans HQ2.out)
  replace HB := hd (HB.out.trans (hb.mono HB.out.size))
  replace RL := hd ((RL.out.below hb (Nat.le_refl _)).mono hb.size)
  replace RG := hd ((RG.out.below hb (Nat.le_refl _)).mono hb.size)
  replace RM := hd ((RM.out.below hb (Nat.le_refl _)).mono hb.size)
  replace RH := hd ((RH.out.below hb (Nat.le_refl _)).mono hb.size)
  clear hb
  clear k0 k1 k2 k3 k4 k5 k6 k7
  have k0 := blk_cell HQ.out 0
  have k1 := blk_cell HQ.out 1
  have k2 := blk_cell HQ.out 2
  have k3 := blk_cell HQ.out 3
  have k4 := blk_cell HQ2.out 0
  have k5 := blk_cell HQ2.out 1
  have k6 := blk_cell HQ2.out 2
  have k7 := blk_cell HQ2.out 3
  simp at k0 k1 k2 k3 k4 k5 k6 k7
  go_wp2_with fail
  refine (short_any nm2 st2 B B2 cs.length d hs.length d2 _).mono ?_
  rw [S2.out]
  rintro e z2 ⟨rfl, hb⟩
  replace HQ := hd ((hb.block _ (blk_lt HQ.out)).trans HQ.out)
  replace HQ2 := hd ((hb.block _ (blk_lt HQ2.out)).trans HQ2.out)
  replace HB := hd (HB.out.trans (hb.mono HB.out.size))
  replace RL := hd ((RL.out.below hb (Nat.le_refl _)).mono hb.size)
  replace RG := hd ((RG.out.below hb (Nat.le_refl _)).mono hb.size)
  replace RM := hd ((RM.out.below hb (Nat.le_refl _)).mono hb.size)
  replace RH := hd ((RH.out.below hb (Nat.le_refl _)).mono hb.size)
  clear hb
  clear k0 k1 k2 k3 k4 k5 k6 k7
  have HRA := hd (fun (X : World) (hb : Below z2.heap.size z2 X) => lawRecord_any nm st _ _ bs gs X ((RL.out.below hb (Nat.le_refl _)).mono hb.size) ((RG.out.below hb (Nat.le_refl _)).mono hb.size) FL.out FG.out HN.out.1 HN.out.2.1)
  have HRB := hd (fun (X : World) (hb : Below z2.heap.size z2 X) => lawRecord_any nm2 st2 _ _ cs hs X ((RM.out.below hb (Nat.le_refl _)).mono hb.size) ((RH.out.below hb (Nat.le_refl _)).mono hb.size) FL2.out FG2.out HN.out.2.2.1 HN.out.2.2.2)
  have k0 := blk_cell HQ.out 0
  have k1 := blk_cell HQ.out 1
  have k2 := blk_cell HQ.out 2
  have k3 := blk_cell HQ.out 3
  have k4 := blk_cell HQ2.out 0
  have k5 := blk_cell HQ2.out 1
  have k6 := blk_cell HQ2.out 2
  have k7 := blk_cell HQ2.out 3
  simp at k0 k1 k2 k3 k4 k5 k6 k7
  have HVS := hd (show w.heap.size + 2 ≤ z2.heap.size from by have := blk_lt HQ2.out; omega)
  have hn0 : z2.heap.size ≠ w.heap.size := by have := HVS.out; omega
  have hn0' := hn0.symm
  have hn1 : z2.heap.size ≠ w.heap.size + 1 := by have := HVS.out; omega
  have hn1' := hn1.symm
  go_wp2_with fail
  go_cut [5, 6] from 22 (fun s5 s6 wx => ∃ (P : Nat), s5 = .pointer (some ⟨P, 0, none⟩) ∧ s6 = .int .i64 x2 ∧ Hid (Below z2.heap.size z2 wx ∧ wx.heap[P]? = some (Obj.cells #[.string ⟨#[]⟩, .int .i64 0, .slice none 0 0, .slice none 0 0] 29 (0, 0))))
  case first =>
    go_region_held3 (fun x => x.cell? ⟨w.heap.size, 0, none⟩ = some (.string nm) ∧ x.cell? ⟨w.heap.size, 1, none⟩ = some (.int .i64 st) ∧ x.cell? ⟨w.heap.size, 2, none⟩ = some (.slice A bs.length c) ∧ x.cell? ⟨w.heap.size, 3, none⟩ = some (.slice A2 gs.length c2) ∧ x.cell? ⟨w.heap.size + 1, 0, none⟩ = some (.string nm2) ∧ x.cell? ⟨w.heap.size + 1, 1, none⟩ = some (.int .i64 st2) ∧ x.cell? ⟨w.heap.size + 1, 2, none⟩ = some (.slice B cs.length d) ∧ x.cell? ⟨w.heap.size + 1, 3, none⟩ = some (.slice B2 hs.length d2)) (go_keep)
      (first | (go_at_call 10; revert UA; intro UA; refine (HRB.out _ (by first | exact HXy1.out | exact HXy1.out.alloc HXy1.out.size _ | exact HXy1.out.drew | exact (HXy1.out.alloc HXy1.out.size _).drew)).mono ?_; rintro e y2 ⟨u3, u4, rfl, hu3, hu4, hf3, -, hb⟩; have HZ2 := hd (show Below y1.heap.size y1 y2 from by first | exact hb | exact ((Below.refl _ y1).alloc (Nat.le_refl _) _).trans (hb.mono (by simp))); have HXy2 := hd (HXy1.out.trans (HZ2.out.mono HXy1.out.size)); have hqy2 := (HXy2.out.block _ (blk_lt HQ.out)).trans HQ.out; have hpy2 := (HXy2.out.block _ (blk_lt HQ2.out)).trans HQ2.out; have M0 := blk_cell hqy2 0; have M1 := blk_cell hqy2 1; have M2 := blk_cell hqy2 2; have M3 := blk_cell hqy2 3; have M4 := blk_cell hpy2 0; have M5 := blk_cell hpy2 1; have M6 := blk_cell hpy2 2; have M7 := blk_cell hpy2 3; simp at M0 M1 M2 M3 M4 M5 M6 M7; clear hqy2 hpy2; have hsy2 := HXy2.out.size; have hay2 : y2.heap.size ≠ w.heap.size := (by have := HVS.out; omega); have hay2' := hay2.symm; have hcy2 : y2.heap.size ≠ w.heap.size + 1 := (by have := HVS.out; omega); have hcy2' := hcy2.symm; (first | (have hP : y2.heap[y1.heap.size]? = some (Obj.cells #[.string ⟨#[]⟩, .int .i64 0, .slice none 0 0, .slice none 0 0] 29 (0, 0)) := (hb.block _ (show y1.heap.size < (y1.alloc (Obj.cells #[.string ⟨#[]⟩, .int .i64 0, .slice none 0 0, .slice none 0 0] 29)).heap.size by simp)).trans (blk_new y1 #[.string ⟨#[]⟩, .int .i64 0, .slice none 0 0, .slice none 0 0] 29); have Mp0 := blk_cell hP 0; have Mp1 := blk_cell hP 1; have Mp2 := blk_cell hP 2; have Mp3 := blk_cell hP 3; simp at Mp0 Mp1 Mp2 Mp3; have Mf0 := blk_frozen hP 0; have Mf1 := blk_frozen hP 1; have Mf2 := blk_frozen hP 2; have Mf3 := blk_frozen hP 3; have HPB := hd hP; clear hP) | (have hP := (HZ2.out.block _ (blk_lt HPA.out)).trans HPA.out; have Mp0 := blk_cell hP 0; have Mp1 := blk_cell hP 1; have Mp2 := blk_cell hP 2; have Mp3 := blk_cell hP 3; simp at Mp0 Mp1 Mp2 Mp3; have Mf0 := blk_frozen hP 0; have Mf1 := blk_frozen hP 1; have Mf2 := blk_frozen hP 2; have Mf3 := blk_frozen hP 3; have HPB := hd hP; clear hP) | skip); have UB := hd (And.intro hu3 (And.intro hu4 hf3)); clear hu3 hu4 hf3 hb) | (go_at_call 10; refine (HRA.out _ (by first | exact (Below.refl _ z2).drew | exact ((Below.refl _ z2).alloc (Nat.le_refl _) _).drew | exact Below.refl _ z2)).mono ?_; rintro e y1 ⟨u1, u2, rfl, hu1, hu2, hf1, -, hb⟩; have HXy1 := hd (show Below z2.heap.size z2 y1 from by first | exact (Below.refl _ z2).drew.trans hb | exact (((Below.refl _ z2).alloc (Nat.le_refl _) _).drew).trans (hb.mono (Nat.le_of_lt (show z2.heap.size < (z2.alloc (Obj.cells #[.string ⟨#[]⟩, .int .i64 0, .slice none 0 0, .slice none 0 0] 29)).heap.size by simp)))); have hqy1 := (HXy1.out.block _ (blk_lt HQ.out)).trans HQ.out; have hpy1 := (HXy1.out.block _ (blk_lt HQ2.out)).trans HQ2.out; have N0 := blk_cell hqy1 0; have N1 := blk_cell hqy1 1; have N2 := blk_cell hqy1 2; have N3 := blk_cell hqy1 3; have N4 := blk_cell hpy1 0; have N5 := blk_cell hpy1 1; have N6 := blk_cell hpy1 2; have N7 := blk_cell hpy1 3; simp at N0 N1 N2 N3 N4 N5 N6 N7; clear hqy1 hpy1; have hsy1 := HXy1.out.size; have hay1 : y1.heap.size ≠ w.heap.size := (by have := HVS.out; omega); have hay1' := hay1.symm; have hcy1 : y1.heap.size ≠ w.heap.size + 1 := (by have := HVS.out; omega); have hcy1' := hcy1.symm; (first | (have hP : y1.heap[z2.heap.size]? = some (Obj.cells #[.string ⟨#[]⟩, .int .i64 0, .slice none 0 0, .slice none 0 0] 29 (0, 0)) := (hb.block _ (show z2.heap.size < (z2.alloc (Obj.cells #[.string ⟨#[]⟩, .int .i64 0, .slice none 0 0, .slice none 0 0] 29)).heap.size by simp)).trans (blk_new z2 #[.string ⟨#[]⟩, .int .i64 0, .slice none 0 0, .slice none 0 0] 29); have Np0 := blk_cell hP 0; have Np1 := blk_cell hP 1; have Np2 := blk_cell hP 2; have Np3 := blk_cell hP 3; simp at Np0 Np1 Np2 Np3; have Nf0 := blk_frozen hP 0; have Nf1 := blk_frozen hP 1; have Nf2 := blk_frozen hP 2; have Nf3 := blk_frozen hP 3; have HPA := hd hP; clear hP) | skip); have UA := hd (And.intro hu1 (And.intro hu2 hf1)); clear hu1 hu2 hf1 hb) | (go_at_call 26; refine (GA.out _ _ _ _ _ (by first | exact ((UA.out.1.below HZ2.out (Nat.le_refl _)).mono HZ2.out.size) | exact (((UA.out.1.below HZ2.out (Nat.le_refl _)).mono HZ2.out.size).below ((Below.refl _ y2).alloc (Nat.le_refl _) _) (Nat.le_refl _)).mono (by simp)) (by first | exact ((UA.out.2.1.below HZ2.out (Nat.le_refl _)).mono HZ2.out.size) | exact (((UA.out.2.1.below HZ2.out (Nat.le_refl _)).mono HZ2.out.size).below ((Below.refl _ y2).alloc (Nat.le_refl _) _) (Nat.le_refl _)).mono (by simp)) (by first | exact UB.out.1 | exact (UB.out.1.below ((Below.refl _ y2).alloc (Nat.le_refl _) _) (Nat.le_refl _)).mono (by simp)) (by first | exact UB.out.2.1 | exact (UB.out.2.1.below ((Below.refl _ y2).alloc (Nat.le_refl _) _) (Nat.le_refl _)).mono (by simp)) UA.out.2.2 UB.out.2.2).mono ?_; rintro e y3 ⟨rfl, hb⟩; have HZ3 := hd (show Below y2.heap.size y2 y3 from by first | exact hb | exact ((Below.refl _ y2).alloc (Nat.le_refl _) _).trans (hb.mono (by simp))); have HXy3 := hd (HXy2.out.trans (HZ3.out.mono HXy2.out.size)); have hqy3 := (HXy3.out.block _ (blk_lt HQ.out)).trans HQ.out; have hpy3 := (HXy3.out.block _ (blk_lt HQ2.out)).trans HQ2.out; have J0 := blk_cell hqy3 0; have J1 := blk_cell hqy3 1; have J2 := blk_cell hqy3 2; have J3 := blk_cell hqy3 3; have J4 := blk_cell hpy3 0; have J5 := blk_cell hpy3 1; have J6 := blk_cell hpy3 2; have J7 := blk_cell hpy3 3; simp at J0 J1 J2 J3 J4 J5 J6 J7; clear hqy3 hpy3; have hsy3 := HXy3.out.size; have hay3 : y3.heap.size ≠ w.heap.size := (by have := HVS.out; omega); have hay3' := hay3.symm; have hcy3 : y3.heap.size ≠ w.heap.size + 1 := (by have := HVS.out; omega); have hcy3' := hcy3.symm; (first | (have hP : y3.heap[y2.heap.size]? = some (Obj.cells #[.string ⟨#[]⟩, .int .i64 0, .slice none 0 0, .slice none 0 0] 29 (0, 0)) := (hb.block _ (show y2.heap.size < (y2.alloc (Obj.cells #[.string ⟨#[]⟩, .int .i64 0, .slice none 0 0, .slice none 0 0] 29)).heap.size by simp)).trans (blk_new y2 #[.string ⟨#[]⟩, .int .i64 0, .slice none 0 0, .slice none 0 0] 29); have Jp0 := blk_cell hP 0; have Jp1 := blk_cell hP 1; have Jp2 := blk_cell hP 2; have Jp3 := blk_cell hP 3; simp at Jp0 Jp1 Jp2 Jp3; have Jf0 := blk_frozen hP 0; have Jf1 := blk_frozen hP 1; have Jf2 := blk_frozen hP 2; have Jf3 := blk_frozen hP 3; have HPC := hd hP; clear hP) | (have hP := (HZ3.out.block _ (blk_lt HPB.out)).trans HPB.out; have Jp0 := blk_cell hP 0; have Jp1 := blk_cell hP 1; have Jp2 := blk_cell hP 2; have Jp3 := blk_cell hP 3; simp at Jp0 Jp1 Jp2 Jp3; have Jf0 := blk_frozen hP 0; have Jf1 := blk_frozen hP 1; have Jf2 := blk_frozen hP 2; have Jf3 := blk_frozen hP 3; have HPC := hd hP; clear hP) | skip); clear hb))
    all_goals
      go_wp2_with fail
      go_meet
      first
        | exact ⟨_, rfl, rfl, hd ⟨HXy3.out.alloc HXy3.out.size _, blk_new _ _ _⟩⟩
        | exact ⟨_, rfl, rfl, hd ⟨set4_below HXy3.out (by first | exact Nat.le_refl _ | exact HXy1.out.size | exact HXy2.out.size) _ _ _ _, set4_blk HPC.out _ _ _ _⟩⟩
  case rest =>
    obtain ⟨P, rfl, rfl, HC⟩ := hcut
    have hb := HC.out.1
    have HP := hd HC.out.2
    clear HC HRA HRB k0 k1 k2 k3 k4 k5 k6 k7 hn0 hn0' hn1 hn1' HVS
    replace HQ := hd ((hb.block _ (blk_lt HQ.out)).trans HQ.out)
    replace HQ2 := hd ((hb.block _ (blk_lt HQ2.out)).trans HQ2.out)
    replace HB := hd (HB.out.trans (hb.mono HB.out.size))
    replace RL := hd ((RL.out.below hb (Nat.le_refl _)).mono hb.size)
    replace RG := hd ((RG.out.below hb (Nat.le_refl _)).mono hb.size)
    replace RM := hd ((RM.out.below hb (Nat.le_refl _)).mono hb.size)
    replace RH := hd ((RH.out.below hb (Nat.le_refl _)).mono hb.size)
    clear hb
    obtain ⟨Y, rfl⟩ : ∃ x : World, x = wc := ⟨_, rfl⟩
    have k0 := blk_cell HQ.out 0
    have k1 := blk_cell HQ.out 1
    have k2 := blk_cell HQ.out 2
    have k3 := blk_cell HQ.out 3
    have k4 := blk_cell HQ2.out 0
    have k5 := blk_cell HQ2.out 1
    have k6 := blk_cell HQ2.out 2
    have k7 := blk_cell HQ2.out 3
    simp at k0 k1 k2 k3 k4 k5 k6 k7
    go_wp2_with fail
    go_region_held3 (fun x => x.cell? ⟨w.heap.size, 0, none⟩ = some (.string nm) ∧ x.cell? ⟨w.heap.size, 1, none⟩ = some (.int .i64 st) ∧ x.cell? ⟨w.heap.size, 2, none⟩ = some (.slice A bs.length c) ∧ x.cell? ⟨w.heap.size, 3, none⟩ = some (.slice A2 gs.length c2) ∧ x.cell? ⟨w.heap.size + 1, 0, none⟩ = some (.string nm2) ∧ x.cell? ⟨w.heap.size + 1, 1, none⟩ = some (.int .i64 st2) ∧ x.cell? ⟨w.heap.size + 1, 2, none⟩ = some (.slice B cs.length d) ∧ x.cell? ⟨w.heap.size + 1, 3, none⟩ = some (.slice B2 hs.length d2)) (go_keep) (first | (go_at_call 12; revert HXv1; intro HXv1; refine (CR2.out _ _ _ ((RM.out.below HXv1.out (Nat.le_refl _)).mono HXv1.out.size) ((RH.out.below HXv1.out (Nat.le_refl _)).mono HXv1.out.size)).mono ?_; rintro e v2 ⟨rfl, hb⟩; have HXv2 := hd (HXv1.out.trans (hb.mono HXv1.out.size)); have hqv2 := (HXv2.out.block _ (blk_lt HQ.out)).trans HQ.out; have hpv2 := (HXv2.out.block _ (blk_lt HQ2.out)).trans HQ2.out; have M0 := blk_cell hqv2 0; have M1 := blk_cell hqv2 1; have M2 := blk_cell hqv2 2; have M3 := blk_cell hqv2 3; have M4 := blk_cell hpv2 0; have M5 := blk_cell hpv2 1; have M6 := blk_cell hpv2 2; have M7 := blk_cell hpv2 3; simp at M0 M1 M2 M3 M4 M5 M6 M7; clear hqv2 hpv2; clear hb) | (go_at_call 12; refine (CR1.out _ _ _ ((RL.out.below (Below.refl Y.heap.size Y).drew (Nat.le_refl _)).mono (Below.refl Y.heap.size Y).drew.size) ((RG.out.below (Below.refl Y.heap.size Y).drew (Nat.le_refl _)).mono (Below.refl Y.heap.size Y).drew.size)).mono ?_; rintro e v1 ⟨rfl, hb⟩; have HXv1 := hd (show Below Y.heap.size Y v1 from (Below.refl Y.heap.size Y).drew.trans hb); have hqv1 := (HXv1.out.block _ (blk_lt HQ.out)).trans HQ.out; have hpv1 := (HXv1.out.block _ (blk_lt HQ2.out)).trans HQ2.out; have N0 := blk_cell hqv1 0; have N1 := blk_cell hqv1 1; have N2 := blk_cell hqv1 2; have N3 := blk_cell hqv1 3; have N4 := blk_cell hpv1 0; have N5 := blk_cell hpv1 1; have N6 := blk_cell hpv1 2; have N7 := blk_cell hpv1 3; simp at N0 N1 N2 N3 N4 N5 N6 N7; clear hqv1 hpv1; clear hb) | (go_at_call 11; refine (lawFirst_any _ [E1, E2] _ (Rd.new v2 #[.int .i64 E1, .int .i64 E2] 3 2 ([E1, E2].map (Value.int .i64)) rfl (by decide))).mono ?_; rw [H1.out]; rintro e v3 ⟨rfl, rfl⟩))
    clear k0 k1 k2 k3 k4 k5 k6 k7
    have hb := HXv2.out.alloc HXv2.out.size (Obj.cells #[.int .i64 E1, .int .i64 E2] 3)
    replace HQ := hd ((hb.block _ (blk_lt HQ.out)).trans HQ.out)
    replace HQ2 := hd ((hb.block _ (blk_lt HQ2.out)).trans HQ2.out)
    replace HP := hd ((hb.block _ (blk_lt HP.out)).trans HP.out)
    replace HB := hd (HB.out.trans (hb.mono HB.out.size))
    replace RL := hd ((RL.out.below hb (Nat.le_refl _)).mono hb.size)
    replace RG := hd ((RG.out.below hb (Nat.le_refl _)).mono hb.size)
    replace RM := hd ((RM.out.below hb (Nat.le_refl _)).mono hb.size)
    replace RH := hd ((RH.out.below hb (Nat.le_refl _)).mono hb.size)
    clear hb
    clear HXv1 HXv2 N0 M0 N1 M1 N2 M2 N3 M3 N4 M4 N5 M5 N6 M6 N7 M7
    generalize v2.alloc (Obj.cells #[.int .i64 E1, .int .i64 E2] 3) = W4 at *
    have k0 := cell_alloc_old (o := (Obj.cells #[.string ⟨#[]⟩, .int .i64 0, .slice none 0 0, .slice none 0 0] 25)) (u := _) ((blk_cell HQ.out 0).trans rfl)
    have k1 := cell_alloc_old (o := (Obj.cells #[.string ⟨#[]⟩, .int .i64 0, .slice none 0 0, .slice none 0 0] 25)) (u := _) ((blk_cell HQ.out 1).trans rfl)
    have k2 := cell_alloc_old (o := (Obj.cells #[.string ⟨#[]⟩, .int .i64 0, .slice none 0 0, .slice none 0 0] 25)) (u := _) ((blk_cell HQ.out 2).trans rfl)
    have k3 := cell_alloc_old (o := (Obj.cells #[.string ⟨#[]⟩, .int .i64 0, .slice none 0 0, .slice none 0 0] 25)) (u := _) ((blk_cell HQ.out 3).trans rfl)
    have j0 := cell_alloc_old (o := (Obj.cells #[.string ⟨#[]⟩, .int .i64 0, .slice none 0 0, .slice none 0 0] 25)) (u := _) ((blk_cell HQ2.out 0).trans rfl)
    have j1 := cell_alloc_old (o := (Obj.cells #[.string ⟨#[]⟩, .int .i64 0, .slice none 0 0, .slice none 0 0] 25)) (u := _) ((blk_cell HQ2.out 1).trans rfl)
    have j2 := cell_alloc_old (o := (Obj.cells #[.string ⟨#[]⟩, .int .i64 0, .slice none 0 0, .slice none 0 0] 25)) (u := _) ((blk_cell HQ2.out 2).trans rfl)
    have j3 := cell_alloc_old (o := (Obj.cells #[.string ⟨#[]⟩, .int .i64 0, .slice none 0 0, .slice none 0 0] 25)) (u := _) ((blk_cell HQ2.out 3).trans rfl)
    have p0 := cell_alloc_old (o := (Obj.cells #[.string ⟨#[]⟩, .int .i64 0, .slice none 0 0, .slice none 0 0] 25)) (u := _) ((blk_cell HP.out 0).trans rfl)
    have p1 := cell_alloc_old (o := (Obj.cells #[.string ⟨#[]⟩, .int .i64 0, .slice none 0 0, .slice none 0 0] 25)) (u := _) ((blk_cell HP.out 1).trans rfl)
    have p2 := cell_alloc_old (o := (Obj.cells #[.string ⟨#[]⟩, .int .i64 0, .slice none 0 0, .slice none 0 0] 25)) (u := _) ((blk_cell HP.out 2).trans rfl)
    have p3 := cell_alloc_old (o := (Obj.cells #[.string ⟨#[]⟩, .int .i64 0, .slice none 0 0, .slice none 0 0] 25)) (u := _) ((blk_cell HP.out 3).trans rfl)
    go_wp2_with fail
    clear k0 k1 k2 k3 j0 j1 j2 j3 p0 p1 p2 p3
    have hlt1 := blk_lt HQ2.out
    have hlt2 := blk_lt HP.out
    have hb := (Below.refl W4.heap.size W4).alloc (Nat.le_refl _) (Obj.cells #[.string ⟨#[]⟩, .int .i64 0, .slice none 0 0, .slice none 0 0] 25)
    have HZ := hd (blk_new W4 #[.string ⟨#[]⟩, .int .i64 0, .slice none 0 0, .slice none 0 0] 25)
    replace HQ := hd ((hb.block _ (blk_lt HQ.out)).trans HQ.out)
    replace HQ2 := hd ((hb.block _ (blk_lt HQ2.out)).trans HQ2.out)
    replace HP := hd ((hb.block _ (blk_lt HP.out)).trans HP.out)
    replace HB := hd (HB.out.trans (hb.mono HB.out.size))
    replace RL := hd ((RL.out.below hb (Nat.le_refl _)).mono hb.size)
    replace RG := hd ((RG.out.below hb (Nat.le_refl _)).mono hb.size)
    replace RM := hd ((RM.out.below hb (Nat.le_refl _)).mono hb.size)
    replace RH := hd ((RH.out.below hb (Nat.le_refl _)).mono hb.size)
    clear hb
    generalize hsz : W4.heap.size = sz at *
    generalize W4.alloc (Obj.cells #[.string ⟨#[]⟩, .int .i64 0, .slice none 0 0, .slice none 0 0] 25) = W5 at *
    clear hsz
    refine (CA.out _).mono ?_
    rintro e a0 ⟨rfl, hb⟩
    replace HQ := hd ((hb.block _ (blk_lt HQ.out)).trans HQ.out)
    replace HQ2 := hd ((hb.block _ (blk_lt HQ2.out)).trans HQ2.out)
    replace HP := hd ((hb.block _ (blk_lt HP.out)).trans HP.out)
    replace HZ := hd ((hb.block _ (blk_lt HZ.out)).trans HZ.out)
    replace HB := hd (HB.out.trans (hb.mono HB.out.size))
    replace RL := hd ((RL.out.below hb (Nat.le_refl _)).mono hb.size)
    replace RG := hd ((RG.out.below hb (Nat.le_refl _)).mono hb.size)
    replace RM := hd ((RM.out.below hb (Nat.le_refl _)).mono hb.size)
    replace RH := hd ((RH.out.below hb (Nat.le_refl _)).mono hb.size)
    clear hb
    have k0 := blk_cell HQ.out 0
    have k1 := blk_cell HQ.out 1
    have k2 := blk_cell HQ.out 2
    have k3 := blk_cell HQ.out 3
    have j0 := blk_cell HQ2.out 0
    have j1 := blk_cell HQ2.out 1
    have j2 := blk_cell HQ2.out 2
    have j3 := blk_cell HQ2.out 3
    have p0 := blk_cell HP.out 0
    have p1 := blk_cell HP.out 1
    have p2 := blk_cell HP.out 2
    have p3 := blk_cell HP.out 3
    simp at k0 k1 k2 k3 j0 j1 j2 j3 p0 p1 p2 p3
    have s0 := blk_cell HZ.out 0
    have s1 := blk_cell HZ.out 1
    have s2 := blk_cell HZ.out 2
    have s3 := blk_cell HZ.out 3
    simp at s0 s1 s2 s3
    go_wp2_with fail
    clear k0 k1 k2 k3 j0 j1 j2 j3 p0 p1 p2 p3
    clear s0 s1 s2 s3
    refine (told_bad x2 ⟨#[]⟩ 0 none none 0 0 0 0 _ hX).mono ?_
    rintro e a9 ⟨rfl, hb⟩
    have HBE := hd (HB.out.trans (hb.mono HB.out.size))
    clear hb
    go_wp2_with fail
    go_returns
    exact ⟨rfl, HBE.out⟩
end Go.Proofs.YtbmeadlamjppgaaGreatDoor
