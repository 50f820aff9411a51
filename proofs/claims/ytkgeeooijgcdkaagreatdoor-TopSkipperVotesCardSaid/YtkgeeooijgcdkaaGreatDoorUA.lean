/-
  The walk of TopSkipperVotes. Conditions: written at it.
  TopSkipperVotes for every input: what is not taken, and what is. Conditions: written at each.
-/
import Derived.Test.YtkgeeooijgcdkaaGreatDoorU4
import Derived.Test.YtkgeeooijgcdkaaGreatDoorU6
import Derived.Test.YtkgeeooijgcdkaaGreatDoorU7
import Derived.Test.YtkgeeooijgcdkaaGreatDoorU8
import Derived.Test.YtkgeeooijgcdkaaGreatDoorQS
import Derived.Test.YtkgeeooijgcdkaaGreatDoorQ4

namespace Go.Proofs.YtkgeeooijgcdkaaGreatDoor
open Go.RowKit Go.Shelf
attribute [local go_sem] Oper.semAt_some

set_option maxRecDepth 1000000 in
theorem sTold_any (nm : ByteArray) (st : Int) (A A2 : Option Addr) (n c n2 c2 : Nat) (w : World) :
    Calls Tryz.prog 14 #[.agg #[.string nm, .int .i64 st, .slice A n c, .slice A2 n2 c2]] w fun e w' => e = .returned (.agg #[.string nm, .int .i64 st, .slice A n c, .slice A2 n2 c2]) ∧ Below w.heap.size w w' := by
  have HB := hd (((Below.refl w.heap.size w).alloc (Nat.le_refl _) (Obj.cells #[.string nm, .int .i64 st, .slice A n c, .slice A2 n2 c2] 30)).alloc (by simp) (Obj.cells #[.string nm, .int .i64 st, .slice A n c, .slice A2 n2 c2] 25))
  go_enter Tryz.func14, Tryz.ntmps14
  go_wp2_with fail
  go_returns
  exact ⟨rfl, HB.out⟩
/-- Integers and no error. -/
def HiR (H : List Int) (w : World) (e : Ending) (w' : World) : Prop :=
  ∃ v, e = .returned (.tuple #[v, .int .i64 0]) ∧ Rd w' w'.heap.size v H.length (H.map (Value.int .i64)) ∧ Below w.heap.size w w'
theorem spans_self (l : List (Int × Int)) : sameF (fun x y : Int × Int => x == y) (0, 0) l l = true := sameF_yes _ _ _ _ rfl (fun j _ => by simp)
theorem ints_self (l : List Int) : sameF (fun x y : Int => x == y) 0 l l = true := sameF_yes _ _ _ _ rfl (fun j _ => by simp)

set_option maxRecDepth 1000000 in
set_option maxHeartbeats 16000000 in
theorem sVotes_walk (nma nmb : ByteArray) (st x0 x1 fr : Int) (Aa Ba Ab Bb : Option Addr) (ca da cb db wd : Nat) (bsa bsb XL XM : List Nat) (gsa gsb : List (Int × Int)) (H : List Int) (w : World)
    (HLa : Hid (Rd w w.heap.size (.slice Aa bsa.length ca) bsa.length (flc bsa))) (HGa : Hid (Rd w w.heap.size (.slice Ba gsa.length da) gsa.length (spc gsa))) (FLa : Hid (Full (.slice Aa bsa.length ca))) (FGa : Hid (Full (.slice Ba gsa.length da))) (Sa : Hid (shortR nma.size bsa.length gsa.length = true)) (CRa : Hid (∀ (X : World) (lv gv : Value), Rd X X.heap.size lv bsa.length (flc bsa) → Rd X X.heap.size gv gsa.length (spc gsa) → Calls Tryz.prog 5 #[.agg #[.string nma, .int .i64 st, lv, gv]] X fun e w' => e = .returned (.int .i64 0) ∧ Below X.heap.size X w')) (HLb : Hid (Rd w w.heap.size (.slice Ab bsb.length cb) bsb.length (flc bsb))) (HGb : Hid (Rd w w.heap.size (.slice Bb gsb.length db) gsb.length (spc gsb))) (FLb : Hid (Full (.slice Ab bsb.length cb))) (FGb : Hid (Full (.slice Bb gsb.length db))) (Sb : Hid (shortR nmb.size bsb.length gsb.length = true)) (CRb : Hid (∀ (X : World) (lv gv : Value), Rd X X.heap.size lv bsb.length (flc bsb) → Rd X X.heap.size gv gsb.length (spc gsb) → Calls Tryz.prog 5 #[.agg #[.string nmb, .int .i64 st, lv, gv]] X fun e w' => e = .returned (.int .i64 0) ∧ Below X.heap.size X w'))
    (HN : Hid (bsa.length ≤ 100000 ∧ gsa.length ≤ 100000 ∧ bsb.length ≤ 100000 ∧ gsb.length ≤ 100000)) (HE : Hid (bsb.length = bsa.length)) (HX0 : Hid (0 ≤ x0 ∧ x0 ≤ 255)) (HX1 : Hid (0 ≤ x1 ∧ x1 ≤ 255)) (HW : Hid (1 + x1 % 12 = (wd : Int)))
    (HV : Hid (∀ j, j < bsa.length → chkLev (bsa.getD j 0) = 0 ∧ chkLev (bsb.getD j 0) = 0))
    (G4 : Hid (∀ (X : World) (u0 v0 u1 v1 u2 v2 : Value), Rd X X.heap.size u0 bsa.length (flc bsa) → Rd X X.heap.size v0 gsa.length (spc gsa) → Rd X X.heap.size u1 bsa.length (flc bsa) → Rd X X.heap.size v1 gsa.length (spc gsa) → Rd X X.heap.size u2 bsb.length (flc bsb) → Rd X X.heap.size v2 gsb.length (spc gsb) → Calls Tryz.prog 7 #[.agg #[.string nma, .int .i64 st, u0, v0, .string nma, .int .i64 st, u1, v1, .string nmb, .int .i64 st, u2, v2], .int .i64 x0] X (GotV nma st 0 0 fr XL gsa X))) (G5 : Hid (∀ (X : World) (u0 v0 u1 v1 u2 v2 : Value), Rd X X.heap.size u0 bsb.length (flc bsb) → Rd X X.heap.size v0 gsb.length (spc gsb) → Rd X X.heap.size u1 bsa.length (flc bsa) → Rd X X.heap.size v1 gsa.length (spc gsa) → Rd X X.heap.size u2 bsa.length (flc bsa) → Rd X X.heap.size v2 gsa.length (spc gsa) → Calls Tryz.prog 7 #[.agg #[.string nmb, .int .i64 st, u0, v0, .string nma, .int .i64 st, u1, v1, .string nma, .int .i64 st, u2, v2], .int .i64 x0] X (GotV nmb st fr 0 0 XM gsa X)))
    (HF : Hid (fr = farF bsa bsb gsa gsb x0 bsa.length)) (SL4 : Hid (sameF feqL 0 XL bsa = true)) (SL5 : Hid (sameF feqL 0 XM bsa = true)) (HXL : Hid (XL.length ≤ 100000))
    (HH4 : Hid (∀ (X : World) (lv gv : Value), Rd X X.heap.size lv bsa.length (flc bsa) → Rd X X.heap.size gv gsa.length (spc gsa) → Calls Tryz.prog 13 #[.agg #[.string nma, .int .i64 st, lv, gv], .int .i64 wd] X (HiR H X)))
    (HH5 : Hid (∀ (X : World) (lv gv : Value), Rd X X.heap.size lv XL.length (flc XL) → Rd X X.heap.size gv gsa.length (spc gsa) → Calls Tryz.prog 13 #[.agg #[.string nma, .int .i64 st, lv, gv], .int .i64 wd] X (HiR H X))) :
    Calls Tryz.prog 3 #[.agg #[.string nma, .int .i64 st, .slice Aa bsa.length ca, .slice Ba gsa.length da], .agg #[.string nmb, .int .i64 st, .slice Ab bsb.length cb, .slice Bb gsb.length db], .agg #[.int .u8 x0, .int .u8 x1]] w fun e w' => e = .returned (.bool true) ∧ Below w.heap.size w w' := by
  obtain ⟨W1, hW1⟩ : ∃ W1, W1 = (((w.alloc (Obj.cells #[.string nma, .int .i64 st, .slice Aa bsa.length ca, .slice Ba gsa.length da] 25)).alloc (Obj.cells #[.string nmb, .int .i64 st, .slice Ab bsb.length cb, .slice Bb gsb.length db] 25)).alloc (Obj.cells #[.int .u8 x0, .int .u8 x1] 26)) := ⟨_, rfl⟩
  have hb1 : Below w.heap.size w W1 := by rw [hW1]; exact (((Below.refl _ w).alloc (Nat.le_refl _) _).alloc (by simp) _).alloc (by simp; omega) _
  have HQA := hd (show W1.heap[w.heap.size]? = some (.cells #[.string nma, .int .i64 st, .slice Aa bsa.length ca, .slice Ba gsa.length da] 25 (0, 0)) by rw [hW1]; exact (Below.heap_alloc _ _ _ (by simp; omega)).trans ((Below.heap_alloc _ _ _ (by simp)).trans (blk_new _ _ _)))
  have HQB := hd (show W1.heap[w.heap.size + 1]? = some (.cells #[.string nmb, .int .i64 st, .slice Ab bsb.length cb, .slice Bb gsb.length db] 25 (0, 0)) by
    have h := blk_new (w.alloc (Obj.cells #[.string nma, .int .i64 st, .slice Aa bsa.length ca, .slice Ba gsa.length da] 25)) #[.string nmb, .int .i64 st, .slice Ab bsb.length cb, .slice Bb gsb.length db] 25
    rw [World.size_alloc] at h
    rw [hW1]; exact (Below.heap_alloc _ _ _ (by simp)).trans h)
  have HQN := hd (show W1.heap[w.heap.size + 1 + 1]? = some (.cells #[.int .u8 x0, .int .u8 x1] 26 (0, 0)) by
    have h := blk_new ((w.alloc (Obj.cells #[.string nma, .int .i64 st, .slice Aa bsa.length ca, .slice Ba gsa.length da] 25)).alloc (Obj.cells #[.string nmb, .int .i64 st, .slice Ab bsb.length cb, .slice Bb gsb.length db] 25)) #[.int .u8 x0, .int .u8 x1] 26
    rw [World.size_alloc, World.size_alloc] at h
    rw [hW1]; exact h)
  have HB := hd hb1
  have RLa := hd ((HLa.out.below hb1 (Nat.le_refl _)).mono hb1.size)
  have RGa := hd ((HGa.out.below hb1 (Nat.le_refl _)).mono hb1.size)
  have RLb := hd ((HLb.out.below hb1 (Nat.le_refl _)).mono hb1.size)
  have RGb := hd ((HGb.out.below hb1 (Nat.le_refl _)).mono hb1.size)
  clear hb1
  go_enter Tryz.func3, Tryz.ntmps3
  go_wp2_with fail
  rw [← hW1]
  clear hW1
  refine (short_any nma st Aa Ba bsa.length ca gsa.length da _).mono ?_
  rw [Sa.out]
  rintro e z0 ⟨rfl, hb⟩
  replace HQA := hd ((hb.block _ (blk_lt HQA.out)).trans HQA.out)
  replace HQB := hd ((hb.block _ (blk_lt HQB.out)).trans HQB.out)
  replace HQN := hd ((hb.block _ (blk_lt HQN.out)).trans HQN.out)
  replace HB := hd (HB.out.trans (hb.mono HB.out.size))
  replace RLa := hd ((RLa.out.below hb (Nat.le_refl _)).mono hb.size)
  replace RGa := hd ((RGa.out.below hb (Nat.le_refl _)).mono hb.size)
  replace RLb := hd ((RLb.out.below hb (Nat.le_refl _)).mono hb.size)
  replace RGb := hd ((RGb.out.below hb (Nat.le_refl _)).mono hb.size)
  clear hb
  have k0 := blk_cell HQA.out 0
  have k1 := blk_cell HQA.out 1
  have k2 := blk_cell HQA.out 2
  have k3 := blk_cell HQA.out 3
  simp at k0 k1 k2 k3
  have l0 := blk_cell HQB.out 0
  have l1 := blk_cell HQB.out 1
  have l2 := blk_cell HQB.out 2
  have l3 := blk_cell HQB.out 3
  simp at l0 l1 l2 l3
  go_wp2_with fail
  refine (short_any nmb st Ab Bb bsb.length cb gsb.length db _).mono ?_
  rw [Sb.out]
  rintro e z1 ⟨rfl, hb⟩
  replace HQA := hd ((hb.block _ (blk_lt HQA.out)).trans HQA.out)
  replace HQB := hd ((hb.block _ (blk_lt HQB.out)).trans HQB.out)
  replace HQN := hd ((hb.block _ (blk_lt HQN.out)).trans HQN.out)
  replace HB := hd (HB.out.trans (hb.mono HB.out.size))
  replace RLa := hd ((RLa.out.below hb (Nat.le_refl _)).mono hb.size)
  replace RGa := hd ((RGa.out.below hb (Nat.le_refl _)).mono hb.size)
  replace RLb := hd ((RLb.out.below hb (Nat.le_refl _)).mono hb.size)
  replace RGb := hd ((RGb.out.below hb (Nat.le_refl _)).mono hb.size)
  clear hb
  clear k0 k1 k2 k3 l0 l1 l2 l3
  have k0 := blk_cell HQA.out 0
  have k1 := blk_cell HQA.out 1
  have k2 := blk_cell HQA.out 2
  have k3 := blk_cell HQA.out 3
  simp at k0 k1 k2 k3
  have l0 := blk_cell HQB.out 0
  have l1 := blk_cell HQB.out 1
  have l2 := blk_cell HQB.out 2
  have l3 := blk_cell HQB.out 3
  simp at l0 l1 l2 l3
  go_wp2_with fail
  refine (CRa.out _ _ _ RLa.out RGa.out).mono ?_
  rintro e z2 ⟨rfl, hb⟩
  replace HQA := hd ((hb.block _ (blk_lt HQA.out)).trans HQA.out)
  replace HQB := hd ((hb.block _ (blk_lt HQB.out)).trans HQB.out)
  replace HQN := hd ((hb.block _ (blk_lt HQN.out)).trans HQN.out)
  replace HB := hd (HB.out.trans (hb.mono HB.out.size))
  replace RLa := hd ((RLa.out.below hb (Nat.le_refl _)).mono hb.size)
  replace RGa := hd ((RGa.out.below hb (Nat.le_refl _)).mono hb.size)
  replace RLb := hd ((RLb.out.below hb (Nat.le_refl _)).mono hb.size)
  replace RGb := hd ((RGb.out.below hb (Nat.le_refl _)).mono hb.size)
  clear hb
  clear k0 k1 k2 k3 l0 l1 l2 l3
  have k0 := blk_cell HQA.out 0
  have k1 := blk_cell HQA.out 1
  have k2 := blk_cell HQA.out 2
  have k3 := blk_cell HQA.out 3
  simp at k0 k1 k2 k3
  have l0 := blk_cell HQB.out 0
  have l1 := blk_cell HQB.out 1
  have l2 := blk_cell HQB.out 2
  have l3 := blk_cell HQB.out 3
  simp at l0 l1 l2 l3
  go_wp2_with fail
  refine (CRb.out _ _ _ RLb.out RGb.out).mono ?_
  rintro e z3 ⟨rfl, hb⟩
  replace HQA := hd ((hb.block _ (blk_lt HQA.out)).trans HQA.out)
  replace HQB := hd ((hb.block _ (blk_lt HQB.out)).trans HQB.out)
  replace HQN := hd ((hb.block _ (blk_lt HQN.out)).trans HQN.out)
  replace HB := hd (HB.out.trans (hb.mono HB.out.size))
  replace RLa := hd ((RLa.out.below hb (Nat.le_refl _)).mono hb.size)
  replace RGa := hd ((RGa.out.below hb (Nat.le_refl _)).mono hb.size)
  replace RLb := hd ((RLb.out.below hb (Nat.le_refl _)).mono hb.size)
  replace RGb := hd ((RGb.out.below hb (Nat.le_refl _)).mono hb.size)
  clear hb
  clear k0 k1 k2 k3 l0 l1 l2 l3
  have k0 := blk_cell HQA.out 0
  have k1 := blk_cell HQA.out 1
  have k2 := blk_cell HQA.out 2
  have k3 := blk_cell HQA.out 3
  simp at k0 k1 k2 k3
  have l0 := blk_cell HQB.out 0
  have l1 := blk_cell HQB.out 1
  have l2 := blk_cell HQB.out 2
  have l3 := blk_cell HQB.out 3
  simp at l0 l1 l2 l3
  have hlz : (bsa.length : Int) = (bsb.length : Int) := by rw [HE.out]
  have hlz2 := HE.out
  have FZ0 : ∀ p : Bw z3, p.out.cell? ⟨w.heap.size + 1 + 1, 0, none⟩ = some (.int .u8 x0) := fun p => p.cell (blk_lt HQN.out) (blk_cell HQN.out 0)
  have FZ1 : ∀ p : Bw z3, p.out.cell? ⟨w.heap.size + 1 + 1, 1, none⟩ = some (.int .u8 x1) := fun p => p.cell (blk_lt HQN.out) (blk_cell HQN.out 1)
  obtain ⟨hx0a, hx0b⟩ := HX0.out
  obtain ⟨hx1a, hx1b⟩ := HX1.out
  go_wp2_with fail
  refine wp_region_bw (by kernel_rfl) (by kernel_rfl) ?_
  repeat (first | go_big_quiet_step (fail))
  refine wpQuiet_nil ?_
  rintro ⟨z4, hb⟩
  change Exit.then _ _ _ _ z4
  clear FZ0 FZ1 hlz hlz2
  replace HQA := hd ((hb.block _ (blk_lt HQA.out)).trans HQA.out)
  replace HQB := hd ((hb.block _ (blk_lt HQB.out)).trans HQB.out)
  replace HQN := hd ((hb.block _ (blk_lt HQN.out)).trans HQN.out)
  replace HB := hd (HB.out.trans (hb.mono HB.out.size))
  replace RLa := hd ((RLa.out.below hb (Nat.le_refl _)).mono hb.size)
  replace RGa := hd ((RGa.out.below hb (Nat.le_refl _)).mono hb.size)
  replace RLb := hd ((RLb.out.below hb (Nat.le_refl _)).mono hb.size)
  replace RGb := hd ((RGb.out.below hb (Nat.le_refl _)).mono hb.size)
  clear hb
  clear k0 k1 k2 k3 l0 l1 l2 l3
  rw [HW.out]
  clear HQN
  go_wp2_with fail
  refine sv_r4 nma nmb st x0 0 0 fr Aa Ba Ab Bb ca da cb db w.heap.size (w.heap.size + 1) bsa bsb XL gsa gsb gsa z4 _ HQA HQB (hd (fun (X : World) (hbx : Below z4.heap.size z4 X) => sRec_any nma st Aa Ba ca da bsa gsa X ((RLa.out.below hbx (Nat.le_refl _)).mono hbx.size) ((RGa.out.below hbx (Nat.le_refl _)).mono hbx.size) FLa.out FGa.out HN.out.1 HN.out.2.1)) (hd (fun (X : World) (hbx : Below z4.heap.size z4 X) => sRec_any nmb st Ab Bb cb db bsb gsb X ((RLb.out.below hbx (Nat.le_refl _)).mono hbx.size) ((RGb.out.below hbx (Nat.le_refl _)).mono hbx.size) FLb.out FGb.out HN.out.2.2.1 HN.out.2.2.2)) G4 ?_
  intro u66 u67 u68 u69 u70 u71 u72 u73 u74 u75 u76 u77 u78 z5 P4 Q4 hfact
  obtain ⟨hb, lv, gv, hp, hq, hl, hg, fl, fg⟩ := hfact
  obtain ⟨Av4, cv4, rfl, -⟩ := id hl
  obtain ⟨Aw4, cw4, rfl, -⟩ := id hg
  have HP4 := hd hp
  have HQ4 := hd hq
  have RV4 := hd hl
  have RW4 := hd hg
  have FV4 := hd (And.intro fl fg)
  clear hp hq hl hg fl fg
  replace HQA := hd ((hb.block _ (blk_lt HQA.out)).trans HQA.out)
  replace HQB := hd ((hb.block _ (blk_lt HQB.out)).trans HQB.out)
  replace HB := hd (HB.out.trans (hb.mono HB.out.size))
  replace RLa := hd ((RLa.out.below hb (Nat.le_refl _)).mono hb.size)
  replace RGa := hd ((RGa.out.below hb (Nat.le_refl _)).mono hb.size)
  replace RLb := hd ((RLb.out.below hb (Nat.le_refl _)).mono hb.size)
  replace RGb := hd ((RGb.out.below hb (Nat.le_refl _)).mono hb.size)
  clear hb
  go_wp2_with fail
  refine sv_r5 nma nmb st x0 fr 0 0 Aa Ba Ab Bb ca da cb db w.heap.size (w.heap.size + 1) bsa bsb XM gsa gsb gsa z5 _ HQA HQB (hd (fun (X : World) (hbx : Below z5.heap.size z5 X) => sRec_any nma st Aa Ba ca da bsa gsa X ((RLa.out.below hbx (Nat.le_refl _)).mono hbx.size) ((RGa.out.below hbx (Nat.le_refl _)).mono hbx.size) FLa.out FGa.out HN.out.1 HN.out.2.1)) (hd (fun (X : World) (hbx : Below z5.heap.size z5 X) => sRec_any nmb st Ab Bb cb db bsb gsb X ((RLb.out.below hbx (Nat.le_refl _)).mono hbx.size) ((RGb.out.below hbx (Nat.le_refl _)).mono hbx.size) FLb.out FGb.out HN.out.2.2.1 HN.out.2.2.2)) G5 ?_
  intro u79 u80 u81 u82 u83 u84 u85 u86 u87 u88 u89 u90 u91 z6 P5 Q5 hfact
  obtain ⟨hb, lv, gv, hp, hq, hl, hg, fl, fg⟩ := hfact
  obtain ⟨Av5, cv5, rfl, -⟩ := id hl
  obtain ⟨Aw5, cw5, rfl, -⟩ := id hg
  have HP5 := hd hp
  have HQ5 := hd hq
  have RV5 := hd hl
  have RW5 := hd hg
  have FV5 := hd (And.intro fl fg)
  clear hp hq hl hg fl fg
  replace HQA := hd ((hb.block _ (blk_lt HQA.out)).trans HQA.out)
  replace HQB := hd ((hb.block _ (blk_lt HQB.out)).trans HQB.out)
  replace HP4 := hd ((hb.block _ (blk_lt HP4.out)).trans HP4.out)
  replace HQ4 := hd ((hb.block _ (blk_lt HQ4.out)).trans HQ4.out)
  replace HB := hd (HB.out.trans (hb.mono HB.out.size))
  replace RLa := hd ((RLa.out.below hb (Nat.le_refl _)).mono hb.size)
  replace RGa := hd ((RGa.out.below hb (Nat.le_refl _)).mono hb.size)
  replace RLb := hd ((RLb.out.below hb (Nat.le_refl _)).mono hb.size)
  replace RGb := hd ((RGb.out.below hb (Nat.le_refl _)).mono hb.size)
  replace RV4 := hd ((RV4.out.below hb (Nat.le_refl _)).mono hb.size)
  replace RW4 := hd ((RW4.out.below hb (Nat.le_refl _)).mono hb.size)
  clear hb
  have k0 := blk_cell HQA.out 0
  have k1 := blk_cell HQA.out 1
  have k2 := blk_cell HQA.out 2
  have k3 := blk_cell HQA.out 3
  simp at k0 k1 k2 k3
  have r0 := blk_cell HP4.out 0
  have r1 := blk_cell HP4.out 1
  have r2 := blk_cell HP4.out 2
  have r3 := blk_cell HP4.out 3
  simp at r0 r1 r2 r3
  have i0 := blk_cell HQ4.out 0
  have i1 := blk_cell HQ4.out 1
  have i2 := blk_cell HQ4.out 2
  simp at i0 i1 i2
  have p0 := blk_cell HP5.out 0
  have p1 := blk_cell HP5.out 1
  have p2 := blk_cell HP5.out 2
  have p3 := blk_cell HP5.out 3
  simp at p0 p1 p2 p3
  have j0 := blk_cell HQ5.out 0
  have j1 := blk_cell HQ5.out 1
  have j2 := blk_cell HQ5.out 2
  simp at j0 j1 j2
  go_wp2_with fail
  refine (sameLevels_any _ _ XL bsa _ RV4.out RLa.out).mono ?_
  rw [SL4.out]
  rintro e z7 ⟨rfl, hb⟩
  replace HQA := hd ((hb.block _ (blk_lt HQA.out)).trans HQA.out)
  replace HQB := hd ((hb.block _ (blk_lt HQB.out)).trans HQB.out)
  replace HP4 := hd ((hb.block _ (blk_lt HP4.out)).trans HP4.out)
  replace HQ4 := hd ((hb.block _ (blk_lt HQ4.out)).trans HQ4.out)
  replace HP5 := hd ((hb.block _ (blk_lt HP5.out)).trans HP5.out)
  replace HQ5 := hd ((hb.block _ (blk_lt HQ5.out)).trans HQ5.out)
  replace HB := hd (HB.out.trans (hb.mono HB.out.size))
  replace RLa := hd ((RLa.out.below hb (Nat.le_refl _)).mono hb.size)
  replace RGa := hd ((RGa.out.below hb (Nat.le_refl _)).mono hb.size)
  replace RLb := hd ((RLb.out.below hb (Nat.le_refl _)).mono hb.size)
  replace RGb := hd ((RGb.out.below hb (Nat.le_refl _)).mono hb.size)
  replace RV4 := hd ((RV4.out.below hb (Nat.le_refl _)).mono hb.size)
  replace RW4 := hd ((RW4.out.below hb (Nat.le_refl _)).mono hb.size)
  replace RV5 := hd ((RV5.out.below hb (Nat.le_refl _)).mono hb.size)
  replace RW5 := hd ((RW5.out.below hb (Nat.le_refl _)).mono hb.size)
  clear hb
  clear k0 k1 k2 k3 r0 r1 r2 r3 i0 i1 i2 p0 p1 p2 p3 j0 j1 j2
  have k0 := blk_cell HQA.out 0
  have k1 := blk_cell HQA.out 1
  have k2 := blk_cell HQA.out 2
  have k3 := blk_cell HQA.out 3
  simp at k0 k1 k2 k3
  have r0 := blk_cell HP4.out 0
  have r1 := blk_cell HP4.out 1
  have r2 := blk_cell HP4.out 2
  have r3 := blk_cell HP4.out 3
  simp at r0 r1 r2 r3
  have i0 := blk_cell HQ4.out 0
  have i1 := blk_cell HQ4.out 1
  have i2 := blk_cell HQ4.out 2
  simp at i0 i1 i2
  have p0 := blk_cell HP5.out 0
  have p1 := blk_cell HP5.out 1
  have p2 := blk_cell HP5.out 2
  have p3 := blk_cell HP5.out 3
  simp at p0 p1 p2 p3
  have j0 := blk_cell HQ5.out 0
  have j1 := blk_cell HQ5.out 1
  have j2 := blk_cell HQ5.out 2
  simp at j0 j1 j2
  go_wp2_with fail
  refine (sameSpans_any _ _ gsa gsa _ RW4.out RGa.out).mono ?_
  rw [spans_self]
  rintro e z8 ⟨rfl, hb⟩
  replace HQA := hd ((hb.block _ (blk_lt HQA.out)).trans HQA.out)
  replace HQB := hd ((hb.block _ (blk_lt HQB.out)).trans HQB.out)
  replace HP4 := hd ((hb.block _ (blk_lt HP4.out)).trans HP4.out)
  replace HQ4 := hd ((hb.block _ (blk_lt HQ4.out)).trans HQ4.out)
  replace HP5 := hd ((hb.block _ (blk_lt HP5.out)).trans HP5.out)
  replace HQ5 := hd ((hb.block _ (blk_lt HQ5.out)).trans HQ5.out)
  replace HB := hd (HB.out.trans (hb.mono HB.out.size))
  replace RLa := hd ((RLa.out.below hb (Nat.le_refl _)).mono hb.size)
  replace RGa := hd ((RGa.out.below hb (Nat.le_refl _)).mono hb.size)
  replace RLb := hd ((RLb.out.below hb (Nat.le_refl _)).mono hb.size)
  replace RGb := hd ((RGb.out.below hb (Nat.le_refl _)).mono hb.size)
  replace RV4 := hd ((RV4.out.below hb (Nat.le_refl _)).mono hb.size)
  replace RW4 := hd ((RW4.out.below hb (Nat.le_refl _)).mono hb.size)
  replace RV5 := hd ((RV5.out.below hb (Nat.le_refl _)).mono hb.size)
  replace RW5 := hd ((RW5.out.below hb (Nat.le_refl _)).mono hb.size)
  clear hb
  clear k0 k1 k2 k3 r0 r1 r2 r3 i0 i1 i2 p0 p1 p2 p3 j0 j1 j2
  have k0 := blk_cell HQA.out 0
  have k1 := blk_cell HQA.out 1
  have k2 := blk_cell HQA.out 2
  have k3 := blk_cell HQA.out 3
  simp at k0 k1 k2 k3
  have r0 := blk_cell HP4.out 0
  have r1 := blk_cell HP4.out 1
  have r2 := blk_cell HP4.out 2
  have r3 := blk_cell HP4.out 3
  simp at r0 r1 r2 r3
  have i0 := blk_cell HQ4.out 0
  have i1 := blk_cell HQ4.out 1
  have i2 := blk_cell HQ4.out 2
  simp at i0 i1 i2
  have p0 := blk_cell HP5.out 0
  have p1 := blk_cell HP5.out 1
  have p2 := blk_cell HP5.out 2
  have p3 := blk_cell HP5.out 3
  simp at p0 p1 p2 p3
  have j0 := blk_cell HQ5.out 0
  have j1 := blk_cell HQ5.out 1
  have j2 := blk_cell HQ5.out 2
  simp at j0 j1 j2
  go_wp2_with fail
  refine (sameLevels_any _ _ XM bsa _ RV5.out RLa.out).mono ?_
  rw [SL5.out]
  rintro e z9 ⟨rfl, hb⟩
  replace HQA := hd ((hb.block _ (blk_lt HQA.out)).trans HQA.out)
  replace HQB := hd ((hb.block _ (blk_lt HQB.out)).trans HQB.out)
  replace HP4 := hd ((hb.block _ (blk_lt HP4.out)).trans HP4.out)
  replace HQ4 := hd ((hb.block _ (blk_lt HQ4.out)).trans HQ4.out)
  replace HP5 := hd ((hb.block _ (blk_lt HP5.out)).trans HP5.out)
  replace HQ5 := hd ((hb.block _ (blk_lt HQ5.out)).trans HQ5.out)
  replace HB := hd (HB.out.trans (hb.mono HB.out.size))
  replace RLa := hd ((RLa.out.below hb (Nat.le_refl _)).mono hb.size)
  replace RGa := hd ((RGa.out.below hb (Nat.le_refl _)).mono hb.size)
  replace RLb := hd ((RLb.out.below hb (Nat.le_refl _)).mono hb.size)
  replace RGb := hd ((RGb.out.below hb (Nat.le_refl _)).mono hb.size)
  replace RV4 := hd ((RV4.out.below hb (Nat.le_refl _)).mono hb.size)
  replace RW4 := hd ((RW4.out.below hb (Nat.le_refl _)).mono hb.size)
  replace RV5 := hd ((RV5.out.below hb (Nat.le_refl _)).mono hb.size)
  replace RW5 := hd ((RW5.out.below hb (Nat.le_refl _)).mono hb.size)
  clear hb
  clear k0 k1 k2 k3 r0 r1 r2 r3 i0 i1 i2 p0 p1 p2 p3 j0 j1 j2
  have k0 := blk_cell HQA.out 0
  have k1 := blk_cell HQA.out 1
  have k2 := blk_cell HQA.out 2
  have k3 := blk_cell HQA.out 3
  simp at k0 k1 k2 k3
  have r0 := blk_cell HP4.out 0
  have r1 := blk_cell HP4.out 1
  have r2 := blk_cell HP4.out 2
  have r3 := blk_cell HP4.out 3
  simp at r0 r1 r2 r3
  have i0 := blk_cell HQ4.out 0
  have i1 := blk_cell HQ4.out 1
  have i2 := blk_cell HQ4.out 2
  simp at i0 i1 i2
  have p0 := blk_cell HP5.out 0
  have p1 := blk_cell HP5.out 1
  have p2 := blk_cell HP5.out 2
  have p3 := blk_cell HP5.out 3
  simp at p0 p1 p2 p3
  have j0 := blk_cell HQ5.out 0
  have j1 := blk_cell HQ5.out 1
  have j2 := blk_cell HQ5.out 2
  simp at j0 j1 j2
  go_wp2_with fail
  refine (sameSpans_any _ _ gsa gsa _ RW5.out RGa.out).mono ?_
  rw [spans_self]
  rintro e z10 ⟨rfl, hb⟩
  replace HQA := hd ((hb.block _ (blk_lt HQA.out)).trans HQA.out)
  replace HQB := hd ((hb.block _ (blk_lt HQB.out)).trans HQB.out)
  replace HP4 := hd ((hb.block _ (blk_lt HP4.out)).trans HP4.out)
  replace HQ4 := hd ((hb.block _ (blk_lt HQ4.out)).trans HQ4.out)
  replace HP5 := hd ((hb.block _ (blk_lt HP5.out)).trans HP5.out)
  replace HQ5 := hd ((hb.block _ (blk_lt HQ5.out)).trans HQ5.out)
  replace HB := hd (HB.out.trans (hb.mono HB.out.size))
  replace RLa := hd ((RLa.out.below hb (Nat.le_refl _)).mono hb.size)
  replace RGa := hd ((RGa.out.below hb (Nat.le_refl _)).mono hb.size)
  replace RLb := hd ((RLb.out.below hb (Nat.le_refl _)).mono hb.size)
  replace RGb := hd ((RGb.out.below hb (Nat.le_refl _)).mono hb.size)
  replace RV4 := hd ((RV4.out.below hb (Nat.le_refl _)).mono hb.size)
  replace RW4 := hd ((RW4.out.below hb (Nat.le_refl _)).mono hb.size)
  replace RV5 := hd ((RV5.out.below hb (Nat.le_refl _)).mono hb.size)
  replace RW5 := hd ((RW5.out.below hb (Nat.le_refl _)).mono hb.size)
  clear hb
  clear k0 k1 k2 k3 r0 r1 r2 r3 i0 i1 i2 p0 p1 p2 p3 j0 j1 j2
  have k0 := blk_cell HQA.out 0
  have k1 := blk_cell HQA.out 1
  have k2 := blk_cell HQA.out 2
  have k3 := blk_cell HQA.out 3
  simp at k0 k1 k2 k3
  have r0 := blk_cell HP4.out 0
  have r1 := blk_cell HP4.out 1
  have r2 := blk_cell HP4.out 2
  have r3 := blk_cell HP4.out 3
  simp at r0 r1 r2 r3
  have i0 := blk_cell HQ4.out 0
  have i1 := blk_cell HQ4.out 1
  have i2 := blk_cell HQ4.out 2
  simp at i0 i1 i2
  have p0 := blk_cell HP5.out 0
  have p1 := blk_cell HP5.out 1
  have p2 := blk_cell HP5.out 2
  have p3 := blk_cell HP5.out 3
  simp at p0 p1 p2 p3
  have j0 := blk_cell HQ5.out 0
  have j1 := blk_cell HQ5.out 1
  have j2 := blk_cell HQ5.out 2
  simp at j0 j1 j2
  go_wp2_with fail
  clear k0 k1 k2 k3 r0 r1 r2 r3 i0 i1 i2 p0 p1 p2 p3 j0 j1 j2
  have HQB2 := HQB
  have RLb2 := RLb
  rw [HE.out] at HQB2 RLb2
  refine sv_l1 nma nmb st x0 Aa Ba Ab Bb ca da cb db bsa.length w.heap.size (w.heap.size + 1) bsa bsb gsa gsb z10 _ _ HQA HQB2 RLa RGa RLb2 RGb (hd ⟨rfl, HE.out, HN.out.1, HX0.out.1, by have := HX0.out; omega⟩) HV (hd (Below.refl _ _)) ?_
  intro u16 u17 u18 u160 u161 u162 u163 u164 u165 u166 u167 u168 u169 u170 u171 u172 u173 u174 u175 u176 u177 u178 u179 u180 u181 u182 u183 u184 u185 u186 u187 u188 u189 u190 u191 u192 z11 hb
  clear HQB2 RLb2
  replace HQA := hd ((hb.block _ (blk_lt HQA.out)).trans HQA.out)
  replace HQB := hd ((hb.block _ (blk_lt HQB.out)).trans HQB.out)
  replace HP4 := hd ((hb.block _ (blk_lt HP4.out)).trans HP4.out)
  replace HQ4 := hd ((hb.block _ (blk_lt HQ4.out)).trans HQ4.out)
  replace HP5 := hd ((hb.block _ (blk_lt HP5.out)).trans HP5.out)
  replace HQ5 := hd ((hb.block _ (blk_lt HQ5.out)).trans HQ5.out)
  replace HB := hd (HB.out.trans (hb.mono HB.out.size))
  replace RLa := hd ((RLa.out.below hb (Nat.le_refl _)).mono hb.size)
  replace RGa := hd ((RGa.out.below hb (Nat.le_refl _)).mono hb.size)
  replace RLb := hd ((RLb.out.below hb (Nat.le_refl _)).mono hb.size)
  replace RGb := hd ((RGb.out.below hb (Nat.le_refl _)).mono hb.size)
  replace RV4 := hd ((RV4.out.below hb (Nat.le_refl _)).mono hb.size)
  replace RW4 := hd ((RW4.out.below hb (Nat.le_refl _)).mono hb.size)
  replace RV5 := hd ((RV5.out.below hb (Nat.le_refl _)).mono hb.size)
  replace RW5 := hd ((RW5.out.below hb (Nat.le_refl _)).mono hb.size)
  clear hb
  rw [← HF.out]
  have k0 := blk_cell HQA.out 0
  have k1 := blk_cell HQA.out 1
  have k2 := blk_cell HQA.out 2
  have k3 := blk_cell HQA.out 3
  simp at k0 k1 k2 k3
  go_wp2_with fail
  refine (sRec_any nma st Aa Ba ca da bsa gsa _ RLa.out RGa.out FLa.out FGa.out HN.out.1 HN.out.2.1).mono ?_
  rintro e z12 ⟨u1, u2, rfl, hu1, hu2, -, -, hb⟩
  have U1 := hd hu1
  have U2 := hd hu2
  clear hu1 hu2
  replace HQA := hd ((hb.block _ (blk_lt HQA.out)).trans HQA.out)
  replace HQB := hd ((hb.block _ (blk_lt HQB.out)).trans HQB.out)
  replace HP4 := hd ((hb.block _ (blk_lt HP4.out)).trans HP4.out)
  replace HQ4 := hd ((hb.block _ (blk_lt HQ4.out)).trans HQ4.out)
  replace HP5 := hd ((hb.block _ (blk_lt HP5.out)).trans HP5.out)
  replace HQ5 := hd ((hb.block _ (blk_lt HQ5.out)).trans HQ5.out)
  replace HB := hd (HB.out.trans (hb.mono HB.out.size))
  replace RLa := hd ((RLa.out.below hb (Nat.le_refl _)).mono hb.size)
  replace RGa := hd ((RGa.out.below hb (Nat.le_refl _)).mono hb.size)
  replace RLb := hd ((RLb.out.below hb (Nat.le_refl _)).mono hb.size)
  replace RGb := hd ((RGb.out.below hb (Nat.le_refl _)).mono hb.size)
  replace RV4 := hd ((RV4.out.below hb (Nat.le_refl _)).mono hb.size)
  replace RW4 := hd ((RW4.out.below hb (Nat.le_refl _)).mono hb.size)
  replace RV5 := hd ((RV5.out.below hb (Nat.le_refl _)).mono hb.size)
  replace RW5 := hd ((RW5.out.below hb (Nat.le_refl _)).mono hb.size)
  clear hb
  clear k0 k1 k2 k3
  go_wp2_with fail
  refine (HH4.out _ _ _ U1.out U2.out).mono ?_
  rintro e z13 ⟨vh, rfl, hh, hb⟩
  clear U1 U2
  have RH := hd hh
  clear hh
  replace HQA := hd ((hb.block _ (blk_lt HQA.out)).trans HQA.out)
  replace HQB := hd ((hb.block _ (blk_lt HQB.out)).trans HQB.out)
  replace HP4 := hd ((hb.block _ (blk_lt HP4.out)).trans HP4.out)
  replace HQ4 := hd ((hb.block _ (blk_lt HQ4.out)).trans HQ4.out)
  replace HP5 := hd ((hb.block _ (blk_lt HP5.out)).trans HP5.out)
  replace HQ5 := hd ((hb.block _ (blk_lt HQ5.out)).trans HQ5.out)
  replace HB := hd (HB.out.trans (hb.mono HB.out.size))
  replace RLa := hd ((RLa.out.below hb (Nat.le_refl _)).mono hb.size)
  replace RGa := hd ((RGa.out.below hb (Nat.le_refl _)).mono hb.size)
  replace RLb := hd ((RLb.out.below hb (Nat.le_refl _)).mono hb.size)
  replace RGb := hd ((RGb.out.below hb (Nat.le_refl _)).mono hb.size)
  replace RV4 := hd ((RV4.out.below hb (Nat.le_refl _)).mono hb.size)
  replace RW4 := hd ((RW4.out.below hb (Nat.le_refl _)).mono hb.size)
  replace RV5 := hd ((RV5.out.below hb (Nat.le_refl _)).mono hb.size)
  replace RW5 := hd ((RW5.out.below hb (Nat.le_refl _)).mono hb.size)
  clear hb
  have r0 := blk_cell HP4.out 0
  have r1 := blk_cell HP4.out 1
  have r2 := blk_cell HP4.out 2
  have r3 := blk_cell HP4.out 3
  simp at r0 r1 r2 r3
  go_wp2_with fail
  refine (sTold_any nma st Av4 Aw4 XL.length cv4 gsa.length cw4 _).mono ?_
  rintro e z14 ⟨rfl, hb⟩
  replace HQA := hd ((hb.block _ (blk_lt HQA.out)).trans HQA.out)
  replace HQB := hd ((hb.block _ (blk_lt HQB.out)).trans HQB.out)
  replace HP4 := hd ((hb.block _ (blk_lt HP4.out)).trans HP4.out)
  replace HQ4 := hd ((hb.block _ (blk_lt HQ4.out)).trans HQ4.out)
  replace HP5 := hd ((hb.block _ (blk_lt HP5.out)).trans HP5.out)
  replace HQ5 := hd ((hb.block _ (blk_lt HQ5.out)).trans HQ5.out)
  replace HB := hd (HB.out.trans (hb.mono HB.out.size))
  replace RLa := hd ((RLa.out.below hb (Nat.le_refl _)).mono hb.size)
  replace RGa := hd ((RGa.out.below hb (Nat.le_refl _)).mono hb.size)
  replace RLb := hd ((RLb.out.below hb (Nat.le_refl _)).mono hb.size)
  replace RGb := hd ((RGb.out.below hb (Nat.le_refl _)).mono hb.size)
  replace RV4 := hd ((RV4.out.below hb (Nat.le_refl _)).mono hb.size)
  replace RW4 := hd ((RW4.out.below hb (Nat.le_refl _)).mono hb.size)
  replace RV5 := hd ((RV5.out.below hb (Nat.le_refl _)).mono hb.size)
  replace RW5 := hd ((RW5.out.below hb (Nat.le_refl _)).mono hb.size)
  replace RH := hd ((RH.out.below hb (Nat.le_refl _)).mono hb.size)
  clear hb
  clear r0 r1 r2 r3
  go_wp2_with fail
  refine (sRec_any nma st Av4 Aw4 cv4 cw4 XL gsa _ RV4.out RW4.out FV4.out.1 FV4.out.2 HXL.out HN.out.2.1).mono ?_
  rintro e z15 ⟨u1, u2, rfl, hu1, hu2, -, -, hb⟩
  have U1 := hd hu1
  have U2 := hd hu2
  clear hu1 hu2
  replace HQA := hd ((hb.block _ (blk_lt HQA.out)).trans HQA.out)
  replace HQB := hd ((hb.block _ (blk_lt HQB.out)).trans HQB.out)
  replace HP4 := hd ((hb.block _ (blk_lt HP4.out)).trans HP4.out)
  replace HQ4 := hd ((hb.block _ (blk_lt HQ4.out)).trans HQ4.out)
  replace HP5 := hd ((hb.block _ (blk_lt HP5.out)).trans HP5.out)
  replace HQ5 := hd ((hb.block _ (blk_lt HQ5.out)).trans HQ5.out)
  replace HB := hd (HB.out.trans (hb.mono HB.out.size))
  replace RLa := hd ((RLa.out.below hb (Nat.le_refl _)).mono hb.size)
  replace RGa := hd ((RGa.out.below hb (Nat.le_refl _)).mono hb.size)
  replace RLb := hd ((RLb.out.below hb (Nat.le_refl _)).mono hb.size)
  replace RGb := hd ((RGb.out.below hb (Nat.le_refl _)).mono hb.size)
  replace RV4 := hd ((RV4.out.below hb (Nat.le_refl _)).mono hb.size)
  replace RW4 := hd ((RW4.out.below hb (Nat.le_refl _)).mono hb.size)
  replace RV5 := hd ((RV5.out.below hb (Nat.le_refl _)).mono hb.size)
  replace RW5 := hd ((RW5.out.below hb (Nat.le_refl _)).mono hb.size)
  replace RH := hd ((RH.out.below hb (Nat.le_refl _)).mono hb.size)
  clear hb
  go_wp2_with fail
  refine (HH5.out _ _ _ U1.out U2.out).mono ?_
  rintro e z16 ⟨vk, rfl, hk, hb⟩
  clear U1 U2
  have RK := hd hk
  clear hk
  replace HQA := hd ((hb.block _ (blk_lt HQA.out)).trans HQA.out)
  replace HQB := hd ((hb.block _ (blk_lt HQB.out)).trans HQB.out)
  replace HP4 := hd ((hb.block _ (blk_lt HP4.out)).trans HP4.out)
  replace HQ4 := hd ((hb.block _ (blk_lt HQ4.out)).trans HQ4.out)
  replace HP5 := hd ((hb.block _ (blk_lt HP5.out)).trans HP5.out)
  replace HQ5 := hd ((hb.block _ (blk_lt HQ5.out)).trans HQ5.out)
  replace HB := hd (HB.out.trans (hb.mono HB.out.size))
  replace RLa := hd ((RLa.out.below hb (Nat.le_refl _)).mono hb.size)
  replace RGa := hd ((RGa.out.below hb (Nat.le_refl _)).mono hb.size)
  replace RLb := hd ((RLb.out.below hb (Nat.le_refl _)).mono hb.size)
  replace RGb := hd ((RGb.out.below hb (Nat.le_refl _)).mono hb.size)
  replace RV4 := hd ((RV4.out.below hb (Nat.le_refl _)).mono hb.size)
  replace RW4 := hd ((RW4.out.below hb (Nat.le_refl _)).mono hb.size)
  replace RV5 := hd ((RV5.out.below hb (Nat.le_refl _)).mono hb.size)
  replace RW5 := hd ((RW5.out.below hb (Nat.le_refl _)).mono hb.size)
  replace RH := hd ((RH.out.below hb (Nat.le_refl _)).mono hb.size)
  clear hb
  have i0 := blk_cell HQ4.out 0
  have i1 := blk_cell HQ4.out 1
  have i2 := blk_cell HQ4.out 2
  simp at i0 i1 i2
  go_wp2_with fail
  refine (sameInts_any _ _ H H _ RH.out RK.out).mono ?_
  rw [ints_self]
  rintro e z17 ⟨rfl, hb⟩
  replace HQA := hd ((hb.block _ (blk_lt HQA.out)).trans HQA.out)
  replace HQB := hd ((hb.block _ (blk_lt HQB.out)).trans HQB.out)
  replace HP4 := hd ((hb.block _ (blk_lt HP4.out)).trans HP4.out)
  replace HQ4 := hd ((hb.block _ (blk_lt HQ4.out)).trans HQ4.out)
  replace HP5 := hd ((hb.block _ (blk_lt HP5.out)).trans HP5.out)
  replace HQ5 := hd ((hb.block _ (blk_lt HQ5.out)).trans HQ5.out)
  replace HB := hd (HB.out.trans (hb.mono HB.out.size))
  replace RLa := hd ((RLa.out.below hb (Nat.le_refl _)).mono hb.size)
  replace RGa := hd ((RGa.out.below hb (Nat.le_refl _)).mono hb.size)
  replace RLb := hd ((RLb.out.below hb (Nat.le_refl _)).mono hb.size)
  replace RGb := hd ((RGb.out.below hb (Nat.le_refl _)).mono hb.size)
  replace RV4 := hd ((RV4.out.below hb (Nat.le_refl _)).mono hb.size)
  replace RW4 := hd ((RW4.out.below hb (Nat.le_refl _)).mono hb.size)
  replace RV5 := hd ((RV5.out.below hb (Nat.le_refl _)).mono hb.size)
  replace RW5 := hd ((RW5.out.below hb (Nat.le_refl _)).mono hb.size)
  replace RH := hd ((RH.out.below hb (Nat.le_refl _)).mono hb.size)
  replace RK := hd ((RK.out.below hb (Nat.le_refl _)).mono hb.size)
  clear hb
  clear i0 i1 i2
  go_wp2_with fail
  refine (sGauge_any _).mono ?_
  rintro e z18 ⟨rfl, hb⟩
  replace HQA := hd ((hb.block _ (blk_lt HQA.out)).trans HQA.out)
  replace HQB := hd ((hb.block _ (blk_lt HQB.out)).trans HQB.out)
  replace HP4 := hd ((hb.block _ (blk_lt HP4.out)).trans HP4.out)
  replace HQ4 := hd ((hb.block _ (blk_lt HQ4.out)).trans HQ4.out)
  replace HP5 := hd ((hb.block _ (blk_lt HP5.out)).trans HP5.out)
  replace HQ5 := hd ((hb.block _ (blk_lt HQ5.out)).trans HQ5.out)
  replace HB := hd (HB.out.trans (hb.mono HB.out.size))
  replace RLa := hd ((RLa.out.below hb (Nat.le_refl _)).mono hb.size)
  replace RGa := hd ((RGa.out.below hb (Nat.le_refl _)).mono hb.size)
  replace RLb := hd ((RLb.out.below hb (Nat.le_refl _)).mono hb.size)
  replace RGb := hd ((RGb.out.below hb (Nat.le_refl _)).mono hb.size)
  replace RV4 := hd ((RV4.out.below hb (Nat.le_refl _)).mono hb.size)
  replace RW4 := hd ((RW4.out.below hb (Nat.le_refl _)).mono hb.size)
  replace RV5 := hd ((RV5.out.below hb (Nat.le_refl _)).mono hb.size)
  replace RW5 := hd ((RW5.out.below hb (Nat.le_refl _)).mono hb.size)
  replace RH := hd ((RH.out.below hb (Nat.le_refl _)).mono hb.size)
  replace RK := hd ((RK.out.below hb (Nat.le_refl _)).mono hb.size)
  clear hb
  go_wp2_with fail
  go_returns
  exact ⟨rfl, HB.out⟩
end Go.Proofs.YtkgeeooijgcdkaaGreatDoor

namespace Go.Proofs.YtkgeeooijgcdkaaGreatDoor
open Go.RowKit
attribute [local go_sem] Oper.semAt_some

set_option maxRecDepth 1000000 in
set_option maxHeartbeats 4000000 in
theorem sVotes_long1 (nma nmb : ByteArray) (sta stb x0 x1 : Int) (Aa Ba Ab Bb : Option Addr) (ca da cb db : Nat) (bsa bsb : List Nat) (gsa gsb : List (Int × Int)) (w : World)
     
    (S1 : Hid (shortR nma.size bsa.length gsa.length = false)) :
    Calls Tryz.prog 3 #[.agg #[.string nma, .int .i64 sta, .slice Aa bsa.length ca, .slice Ba gsa.length da], .agg #[.string nmb, .int .i64 stb, .slice Ab bsb.length cb, .slice Bb gsb.length db], .agg #[.int .u8 x0, .int .u8 x1]] w fun e w' => e = .returned (.bool true) ∧ Below w.heap.size w w' := by
  obtain ⟨W1, hW1⟩ : ∃ W1, W1 = (((w.alloc (Obj.cells #[.string nma, .int .i64 sta, .slice Aa bsa.length ca, .slice Ba gsa.length da] 25)).alloc (Obj.cells #[.string nmb, .int .i64 stb, .slice Ab bsb.length cb, .slice Bb gsb.length db] 25)).alloc (Obj.cells #[.int .u8 x0, .int .u8 x1] 26)) := ⟨_, rfl⟩
  have hb1 : Below w.heap.size w W1 := by rw [hW1]; exact (((Below.refl _ w).alloc (Nat.le_refl _) _).alloc (by simp) _).alloc (by simp; omega) _
  have HQA := hd (show W1.heap[w.heap.size]? = some (.cells #[.string nma, .int .i64 sta, .slice Aa bsa.length ca, .slice Ba gsa.length da] 25 (0, 0)) by rw [hW1]; exact (Below.heap_alloc _ _ _ (by simp; omega)).trans ((Below.heap_alloc _ _ _ (by simp)).trans (blk_new _ _ _)))
  have HQB := hd (show W1.heap[w.heap.size + 1]? = some (.cells #[.string nmb, .int .i64 stb, .slice Ab bsb.length cb, .slice Bb gsb.length db] 25 (0, 0)) by
    have h := blk_new (w.alloc (Obj.cells #[.string nma, .int .i64 sta, .slice Aa bsa.length ca, .slice Ba gsa.length da] 25)) #[.string nmb, .int .i64 stb, .slice Ab bsb.length cb, .slice Bb gsb.length db] 25
    rw [World.size_alloc] at h
    rw [hW1]; exact (Below.heap_alloc _ _ _ (by simp)).trans h)
  have HB := hd hb1
  clear hb1
  go_enter Tryz.func3, Tryz.ntmps3
  go_wp2_with fail
  rw [← hW1]
  clear hW1
  refine (short_any nma sta Aa Ba bsa.length ca gsa.length da _).mono ?_
  rw [S1.out]
  rintro e z0 ⟨rfl, hb⟩
  replace HQA := hd ((hb.block _ (blk_lt HQA.out)).trans HQA.out)
  replace HQB := hd ((hb.block _ (blk_lt HQB.out)).trans HQB.out)
  replace HB := hd (HB.out.trans (hb.mono HB.out.size))
  clear hb
  go_wp2_with fail
  refine (sGauge_any _).mono ?_
  rintro e z1 ⟨rfl, hb⟩
  replace HQA := hd ((hb.block _ (blk_lt HQA.out)).trans HQA.out)
  replace HQB := hd ((hb.block _ (blk_lt HQB.out)).trans HQB.out)
  replace HB := hd (HB.out.trans (hb.mono HB.out.size))
  clear hb
  go_wp2_with fail
  go_returns
  exact ⟨rfl, HB.out⟩

set_option maxRecDepth 1000000 in
set_option maxHeartbeats 4000000 in
theorem sVotes_long2 (nma nmb : ByteArray) (sta stb x0 x1 : Int) (Aa Ba Ab Bb : Option Addr) (ca da cb db : Nat) (bsa bsb : List Nat) (gsa gsb : List (Int × Int)) (w : World)
     
    (S1 : Hid (shortR nma.size bsa.length gsa.length = true)) (S2 : Hid (shortR nmb.size bsb.length gsb.length = false)) :
    Calls Tryz.prog 3 #[.agg #[.string nma, .int .i64 sta, .slice Aa bsa.length ca, .slice Ba gsa.length da], .agg #[.string nmb, .int .i64 stb, .slice Ab bsb.length cb, .slice Bb gsb.length db], .agg #[.int .u8 x0, .int .u8 x1]] w fun e w' => e = .returned (.bool true) ∧ Below w.heap.size w w' := by
  obtain ⟨W1, hW1⟩ : ∃ W1, W1 = (((w.alloc (Obj.cells #[.string nma, .int .i64 sta, .slice Aa bsa.length ca, .slice Ba gsa.length da] 25)).alloc (Obj.cells #[.string nmb, .int .i64 stb, .slice Ab bsb.length cb, .slice Bb gsb.length db] 25)).alloc (Obj.cells #[.int .u8 x0, .int .u8 x1] 26)) := ⟨_, rfl⟩
  have hb1 : Below w.heap.size w W1 := by rw [hW1]; exact (((Below.refl _ w).alloc (Nat.le_refl _) _).alloc (by simp) _).alloc (by simp; omega) _
  have HQA := hd (show W1.heap[w.heap.size]? = some (.cells #[.string nma, .int .i64 sta, .slice Aa bsa.length ca, .slice Ba gsa.length da] 25 (0, 0)) by rw [hW1]; exact (Below.heap_alloc _ _ _ (by simp; omega)).trans ((Below.heap_alloc _ _ _ (by simp)).trans (blk_new _ _ _)))
  have HQB := hd (show W1.heap[w.heap.size + 1]? = some (.cells #[.string nmb, .int .i64 stb, .slice Ab bsb.length cb, .slice Bb gsb.length db] 25 (0, 0)) by
    have h := blk_new (w.alloc (Obj.cells #[.string nma, .int .i64 sta, .slice Aa bsa.length ca, .slice Ba gsa.length da] 25)) #[.string nmb, .int .i64 stb, .slice Ab bsb.length cb, .slice Bb gsb.length db] 25
    rw [World.size_alloc] at h
    rw [hW1]; exact (Below.heap_alloc _ _ _ (by simp)).trans h)
  have HB := hd hb1
  clear hb1
  go_enter Tryz.func3, Tryz.ntmps3
  go_wp2_with fail
  rw [← hW1]
  clear hW1
  refine (short_any nma sta Aa Ba bsa.length ca gsa.length da _).mono ?_
  rw [S1.out]
  rintro e z0 ⟨rfl, hb⟩
  replace HQA := hd ((hb.block _ (blk_lt HQA.out)).trans HQA.out)
  replace HQB := hd ((hb.block _ (blk_lt HQB.out)).trans HQB.out)
  replace HB := hd (HB.out.trans (hb.mono HB.out.size))
  clear hb
  have k0 := blk_cell HQA.out 0
  have k1 := blk_cell HQA.out 1
  have k2 := blk_cell HQA.out 2
  have k3 := blk_cell HQA.out 3
  simp at k0 k1 k2 k3
  have l0 := blk_cell HQB.out 0
  have l1 := blk_cell HQB.out 1
  have l2 := blk_cell HQB.out 2
  have l3 := blk_cell HQB.out 3
  simp at l0 l1 l2 l3
  go_wp2_with fail
  refine (short_any nmb stb Ab Bb bsb.length cb gsb.length db _).mono ?_
  rw [S2.out]
  rintro e z1 ⟨rfl, hb⟩
  replace HQA := hd ((hb.block _ (blk_lt HQA.out)).trans HQA.out)
  replace HQB := hd ((hb.block _ (blk_lt HQB.out)).trans HQB.out)
  replace HB := hd (HB.out.trans (hb.mono HB.out.size))
  clear hb
  clear k0 k1 k2 k3 l0 l1 l2 l3
  go_wp2_with fail
  refine (sGauge_any _).mono ?_
  rintro e z2 ⟨rfl, hb⟩
  replace HQA := hd ((hb.block _ (blk_lt HQA.out)).trans HQA.out)
  replace HQB := hd ((hb.block _ (blk_lt HQB.out)).trans HQB.out)
  replace HB := hd (HB.out.trans (hb.mono HB.out.size))
  clear hb
  go_wp2_with fail
  go_returns
  exact ⟨rfl, HB.out⟩

set_option maxRecDepth 1000000 in
set_option maxHeartbeats 4000000 in
theorem sVotes_long3 (nma nmb : ByteArray) (sta stb x0 x1 : Int) (Aa Ba Ab Bb : Option Addr) (ca da cb db : Nat) (bsa bsb : List Nat) (gsa gsb : List (Int × Int)) (w : World)
    (HLa : Hid (Rd w w.heap.size (.slice Aa bsa.length ca) bsa.length (flc bsa))) (HGa : Hid (Rd w w.heap.size (.slice Ba gsa.length da) gsa.length (spc gsa))) (HLb : Hid (Rd w w.heap.size (.slice Ab bsb.length cb) bsb.length (flc bsb))) (HGb : Hid (Rd w w.heap.size (.slice Bb gsb.length db) gsb.length (spc gsb))) (HS : Hid (nma.size ≤ maxLen ∧ nmb.size ≤ maxLen))
    (S1 : Hid (shortR nma.size bsa.length gsa.length = true)) (S2 : Hid (shortR nmb.size bsb.length gsb.length = true)) (S3 : Hid ((chkRec nma sta bsa gsa != 0) = true)) :
    Calls Tryz.prog 3 #[.agg #[.string nma, .int .i64 sta, .slice Aa bsa.length ca, .slice Ba gsa.length da], .agg #[.string nmb, .int .i64 stb, .slice Ab bsb.length cb, .slice Bb gsb.length db], .agg #[.int .u8 x0, .int .u8 x1]] w fun e w' => e = .returned (.bool true) ∧ Below w.heap.size w w' := by
  obtain ⟨W1, hW1⟩ : ∃ W1, W1 = (((w.alloc (Obj.cells #[.string nma, .int .i64 sta, .slice Aa bsa.length ca, .slice Ba gsa.length da] 25)).alloc (Obj.cells #[.string nmb, .int .i64 stb, .slice Ab bsb.length cb, .slice Bb gsb.length db] 25)).alloc (Obj.cells #[.int .u8 x0, .int .u8 x1] 26)) := ⟨_, rfl⟩
  have hb1 : Below w.heap.size w W1 := by rw [hW1]; exact (((Below.refl _ w).alloc (Nat.le_refl _) _).alloc (by simp) _).alloc (by simp; omega) _
  have HQA := hd (show W1.heap[w.heap.size]? = some (.cells #[.string nma, .int .i64 sta, .slice Aa bsa.length ca, .slice Ba gsa.length da] 25 (0, 0)) by rw [hW1]; exact (Below.heap_alloc _ _ _ (by simp; omega)).trans ((Below.heap_alloc _ _ _ (by simp)).trans (blk_new _ _ _)))
  have HQB := hd (show W1.heap[w.heap.size + 1]? = some (.cells #[.string nmb, .int .i64 stb, .slice Ab bsb.length cb, .slice Bb gsb.length db] 25 (0, 0)) by
    have h := blk_new (w.alloc (Obj.cells #[.string nma, .int .i64 sta, .slice Aa bsa.length ca, .slice Ba gsa.length da] 25)) #[.string nmb, .int .i64 stb, .slice Ab bsb.length cb, .slice Bb gsb.length db] 25
    rw [World.size_alloc] at h
    rw [hW1]; exact (Below.heap_alloc _ _ _ (by simp)).trans h)
  have HB := hd hb1
  have RLa := hd ((HLa.out.below hb1 (Nat.le_refl _)).mono hb1.size)
  have RGa := hd ((HGa.out.below hb1 (Nat.le_refl _)).mono hb1.size)
  have RLb := hd ((HLb.out.below hb1 (Nat.le_refl _)).mono hb1.size)
  have RGb := hd ((HGb.out.below hb1 (Nat.le_refl _)).mono hb1.size)
  clear hb1
  go_enter Tryz.func3, Tryz.ntmps3
  go_wp2_with fail
  rw [← hW1]
  clear hW1
  refine (short_any nma sta Aa Ba bsa.length ca gsa.length da _).mono ?_
  rw [S1.out]
  rintro e z0 ⟨rfl, hb⟩
  replace HQA := hd ((hb.block _ (blk_lt HQA.out)).trans HQA.out)
  replace HQB := hd ((hb.block _ (blk_lt HQB.out)).trans HQB.out)
  replace HB := hd (HB.out.trans (hb.mono HB.out.size))
  replace RLa := hd ((RLa.out.below hb (Nat.le_refl _)).mono hb.size)
  replace RGa := hd ((RGa.out.below hb (Nat.le_refl _)).mono hb.size)
  replace RLb := hd ((RLb.out.below hb (Nat.le_refl _)).mono hb.size)
  replace RGb := hd ((RGb.out.below hb (Nat.le_refl _)).mono hb.size)
  clear hb
  have k0 := blk_cell HQA.out 0
  have k1 := blk_cell HQA.out 1
  have k2 := blk_cell HQA.out 2
  have k3 := blk_cell HQA.out 3
  simp at k0 k1 k2 k3
  have l0 := blk_cell HQB.out 0
  have l1 := blk_cell HQB.out 1
  have l2 := blk_cell HQB.out 2
  have l3 := blk_cell HQB.out 3
  simp at l0 l1 l2 l3
  go_wp2_with fail
  refine (short_any nmb stb Ab Bb bsb.length cb gsb.length db _).mono ?_
  rw [S2.out]
  rintro e z1 ⟨rfl, hb⟩
  replace HQA := hd ((hb.block _ (blk_lt HQA.out)).trans HQA.out)
  replace HQB := hd ((hb.block _ (blk_lt HQB.out)).trans HQB.out)
  replace HB := hd (HB.out.trans (hb.mono HB.out.size))
  replace RLa := hd ((RLa.out.below hb (Nat.le_refl _)).mono hb.size)
  replace RGa := hd ((RGa.out.below hb (Nat.le_refl _)).mono hb.size)
  replace RLb := hd ((RLb.out.below hb (Nat.le_refl _)).mono hb.size)
  replace RGb := hd ((RGb.out.below hb (Nat.le_refl _)).mono hb.size)
  clear hb
  clear k0 k1 k2 k3 l0 l1 l2 l3
  have k0 := blk_cell HQA.out 0
  have k1 := blk_cell HQA.out 1
  have k2 := blk_cell HQA.out 2
  have k3 := blk_cell HQA.out 3
  simp at k0 k1 k2 k3
  have l0 := blk_cell HQB.out 0
  have l1 := blk_cell HQB.out 1
  have l2 := blk_cell HQB.out 2
  have l3 := blk_cell HQB.out 3
  simp at l0 l1 l2 l3
  go_wp2_with fail
  refine (refRec_any nma sta _ _ bsa gsa _ RLa.out RGa.out HS.out.1).mono ?_
  have S3' := S3.out
  generalize chkRec nma sta bsa gsa = E1 at S3' ⊢
  rintro e z2 ⟨rfl, hb⟩
  replace HQA := hd ((hb.block _ (blk_lt HQA.out)).trans HQA.out)
  replace HQB := hd ((hb.block _ (blk_lt HQB.out)).trans HQB.out)
  replace HB := hd (HB.out.trans (hb.mono HB.out.size))
  replace RLa := hd ((RLa.out.below hb (Nat.le_refl _)).mono hb.size)
  replace RGa := hd ((RGa.out.below hb (Nat.le_refl _)).mono hb.size)
  replace RLb := hd ((RLb.out.below hb (Nat.le_refl _)).mono hb.size)
  replace RGb := hd ((RGb.out.below hb (Nat.le_refl _)).mono hb.size)
  clear hb
  clear k0 k1 k2 k3 l0 l1 l2 l3
  go_wp2_with fail
  refine (sGauge_any _).mono ?_
  rintro e z3 ⟨rfl, hb⟩
  replace HQA := hd ((hb.block _ (blk_lt HQA.out)).trans HQA.out)
  replace HQB := hd ((hb.block _ (blk_lt HQB.out)).trans HQB.out)
  replace HB := hd (HB.out.trans (hb.mono HB.out.size))
  replace RLa := hd ((RLa.out.below hb (Nat.le_refl _)).mono hb.size)
  replace RGa := hd ((RGa.out.below hb (Nat.le_refl _)).mono hb.size)
  replace RLb := hd ((RLb.out.below hb (Nat.le_refl _)).mono hb.size)
  replace RGb := hd ((RGb.out.below hb (Nat.le_refl _)).mono hb.size)
  clear hb
  go_wp2_with fail
  go_returns
  exact ⟨rfl, HB.out⟩

set_option maxRecDepth 1000000 in
set_option maxHeartbeats 4000000 in
theorem sVotes_long4 (nma nmb : ByteArray) (sta stb x0 x1 : Int) (Aa Ba Ab Bb : Option Addr) (ca da cb db : Nat) (bsa bsb : List Nat) (gsa gsb : List (Int × Int)) (w : World)
    (HLa : Hid (Rd w w.heap.size (.slice Aa bsa.length ca) bsa.length (flc bsa))) (HGa : Hid (Rd w w.heap.size (.slice Ba gsa.length da) gsa.length (spc gsa))) (HLb : Hid (Rd w w.heap.size (.slice Ab bsb.length cb) bsb.length (flc bsb))) (HGb : Hid (Rd w w.heap.size (.slice Bb gsb.length db) gsb.length (spc gsb))) (HS : Hid (nma.size ≤ maxLen ∧ nmb.size ≤ maxLen))
    (S1 : Hid (shortR nma.size bsa.length gsa.length = true)) (S2 : Hid (shortR nmb.size bsb.length gsb.length = true)) (S3 : Hid ((chkRec nma sta bsa gsa != 0) = false)) (S4 : Hid ((chkRec nmb stb bsb gsb != 0) = true)) :
    Calls Tryz.prog 3 #[.agg #[.string nma, .int .i64 sta, .slice Aa bsa.length ca, .slice Ba gsa.length da], .agg #[.string nmb, .int .i64 stb, .slice Ab bsb.length cb, .slice Bb gsb.length db], .agg #[.int .u8 x0, .int .u8 x1]] w fun e w' => e = .returned (.bool true) ∧ Below w.heap.size w w' := by
  obtain ⟨W1, hW1⟩ : ∃ W1, W1 = (((w.alloc (Obj.cells #[.string nma, .int .i64 sta, .slice Aa bsa.length ca, .slice Ba gsa.length da] 25)).alloc (Obj.cells #[.string nmb, .int .i64 stb, .slice Ab bsb.length cb, .slice Bb gsb.length db] 25)).alloc (Obj.cells #[.int .u8 x0, .int .u8 x1] 26)) := ⟨_, rfl⟩
  have hb1 : Below w.heap.size w W1 := by rw [hW1]; exact (((Below.refl _ w).alloc (Nat.le_refl _) _).alloc (by simp) _).alloc (by simp; omega) _
  have HQA := hd (show W1.heap[w.heap.size]? = some (.cells #[.string nma, .int .i64 sta, .slice Aa bsa.length ca, .slice Ba gsa.length da] 25 (0, 0)) by rw [hW1]; exact (Below.heap_alloc _ _ _ (by simp; omega)).trans ((Below.heap_alloc _ _ _ (by simp)).trans (blk_new _ _ _)))
  have HQB := hd (show W1.heap[w.heap.size + 1]? = some (.cells #[.string nmb, .int .i64 stb, .slice Ab bsb.length cb, .slice Bb gsb.length db] 25 (0, 0)) by
    have h := blk_new (w.alloc (Obj.cells #[.string nma, .int .i64 sta, .slice Aa bsa.length ca, .slice Ba gsa.length da] 25)) #[.string nmb, .int .i64 stb, .slice Ab bsb.length cb, .slice Bb gsb.length db] 25
    rw [World.size_alloc] at h
    rw [hW1]; exact (Below.heap_alloc _ _ _ (by simp)).trans h)
  have HB := hd hb1
  have RLa := hd ((HLa.out.below hb1 (Nat.le_refl _)).mono hb1.size)
  have RGa := hd ((HGa.out.below hb1 (Nat.le_refl _)).mono hb1.size)
  have RLb := hd ((HLb.out.below hb1 (Nat.le_refl _)).mono hb1.size)
  have RGb := hd ((HGb.out.below hb1 (Nat.le_refl _)).mono hb1.size)
  clear hb1
  go_enter Tryz.func3, Tryz.ntmps3
  go_wp2_with fail
  rw [← hW1]
  clear hW1
  refine (short_any nma sta Aa Ba bsa.length ca gsa.length da _).mono ?_
  rw [S1.out]
  rintro e z0 ⟨rfl, hb⟩
  replace HQA := hd ((hb.block _ (blk_lt HQA.out)).trans HQA.out)
  replace HQB := hd ((hb.block _ (blk_lt HQB.out)).trans HQB.out)
  replace HB := hd (HB.out.trans (hb.mono HB.out.size))
  replace RLa := hd ((RLa.out.below hb (Nat.le_refl _)).mono hb.size)
  replace RGa := hd ((RGa.out.below hb (Nat.le_refl _)).mono hb.size)
  replace RLb := hd ((RLb.out.below hb (Nat.le_refl _)).mono hb.size)
  replace RGb := hd ((RGb.out.below hb (Nat.le_refl _)).mono hb.size)
  clear hb
  have k0 := blk_cell HQA.out 0
  have k1 := blk_cell HQA.out 1
  have k2 := blk_cell HQA.out 2
  have k3 := blk_cell HQA.out 3
  simp at k0 k1 k2 k3
  have l0 := blk_cell HQB.out 0
  have l1 := blk_cell HQB.out 1
  have l2 := blk_cell HQB.out 2
  have l3 := blk_cell HQB.out 3
  simp at l0 l1 l2 l3
  go_wp2_with fail
  refine (short_any nmb stb Ab Bb bsb.length cb gsb.length db _).mono ?_
  rw [S2.out]
  rintro e z1 ⟨rfl, hb⟩
  replace HQA := hd ((hb.block _ (blk_lt HQA.out)).trans HQA.out)
  replace HQB := hd ((hb.block _ (blk_lt HQB.out)).trans HQB.out)
  replace HB := hd (HB.out.trans (hb.mono HB.out.size))
  replace RLa := hd ((RLa.out.below hb (Nat.le_refl _)).mono hb.size)
  replace RGa := hd ((RGa.out.below hb (Nat.le_refl _)).mono hb.size)
  replace RLb := hd ((RLb.out.below hb (Nat.le_refl _)).mono hb.size)
  replace RGb := hd ((RGb.out.below hb (Nat.le_refl _)).mono hb.size)
  clear hb
  clear k0 k1 k2 k3 l0 l1 l2 l3
  have k0 := blk_cell HQA.out 0
  have k1 := blk_cell HQA.out 1
  have k2 := blk_cell HQA.out 2
  have k3 := blk_cell HQA.out 3
  simp at k0 k1 k2 k3
  have l0 := blk_cell HQB.out 0
  have l1 := blk_cell HQB.out 1
  have l2 := blk_cell HQB.out 2
  have l3 := blk_cell HQB.out 3
  simp at l0 l1 l2 l3
  go_wp2_with fail
  refine (refRec_any nma sta _ _ bsa gsa _ RLa.out RGa.out HS.out.1).mono ?_
  have S3' := S3.out
  generalize chkRec nma sta bsa gsa = E1 at S3' ⊢
  rintro e z2 ⟨rfl, hb⟩
  replace HQA := hd ((hb.block _ (blk_lt HQA.out)).trans HQA.out)
  replace HQB := hd ((hb.block _ (blk_lt HQB.out)).trans HQB.out)
  replace HB := hd (HB.out.trans (hb.mono HB.out.size))
  replace RLa := hd ((RLa.out.below hb (Nat.le_refl _)).mono hb.size)
  replace RGa := hd ((RGa.out.below hb (Nat.le_refl _)).mono hb.size)
  replace RLb := hd ((RLb.out.below hb (Nat.le_refl _)).mono hb.size)
  replace RGb := hd ((RGb.out.below hb (Nat.le_refl _)).mono hb.size)
  clear hb
  clear k0 k1 k2 k3 l0 l1 l2 l3
  have k0 := blk_cell HQA.out 0
  have k1 := blk_cell HQA.out 1
  have k2 := blk_cell HQA.out 2
  have k3 := blk_cell HQA.out 3
  simp at k0 k1 k2 k3
  have l0 := blk_cell HQB.out 0
  have l1 := blk_cell HQB.out 1
  have l2 := blk_cell HQB.out 2
  have l3 := blk_cell HQB.out 3
  simp at l0 l1 l2 l3
  go_wp2_with fail
  refine (refRec_any nmb stb _ _ bsb gsb _ RLb.out RGb.out HS.out.2).mono ?_
  have S4' := S4.out
  generalize chkRec nmb stb bsb gsb = E2 at S4' ⊢
  rintro e z3 ⟨rfl, hb⟩
  replace HQA := hd ((hb.block _ (blk_lt HQA.out)).trans HQA.out)
  replace HQB := hd ((hb.block _ (blk_lt HQB.out)).trans HQB.out)
  replace HB := hd (HB.out.trans (hb.mono HB.out.size))
  replace RLa := hd ((RLa.out.below hb (Nat.le_refl _)).mono hb.size)
  replace RGa := hd ((RGa.out.below hb (Nat.le_refl _)).mono hb.size)
  replace RLb := hd ((RLb.out.below hb (Nat.le_refl _)).mono hb.size)
  replace RGb := hd ((RGb.out.below hb (Nat.le_refl _)).mono hb.size)
  clear hb
  clear k0 k1 k2 k3 l0 l1 l2 l3
  go_wp2_with fail
  refine (sGauge_any _).mono ?_
  rintro e z4 ⟨rfl, hb⟩
  replace HQA := hd ((hb.block _ (blk_lt HQA.out)).trans HQA.out)
  replace HQB := hd ((hb.block _ (blk_lt HQB.out)).trans HQB.out)
  replace HB := hd (HB.out.trans (hb.mono HB.out.size))
  replace RLa := hd ((RLa.out.below hb (Nat.le_refl _)).mono hb.size)
  replace RGa := hd ((RGa.out.below hb (Nat.le_refl _)).mono hb.size)
  replace RLb := hd ((RLb.out.below hb (Nat.le_refl _)).mono hb.size)
  replace RGb := hd ((RGb.out.below hb (Nat.le_refl _)).mono hb.size)
  clear hb
  go_wp2_with fail
  go_returns
  exact ⟨rfl, HB.out⟩

set_option maxRecDepth 1000000 in
set_option maxHeartbeats 4000000 in
theorem sVotes_long5 (nma nmb : ByteArray) (sta stb x0 x1 : Int) (Aa Ba Ab Bb : Option Addr) (ca da cb db : Nat) (bsa bsb : List Nat) (gsa gsb : List (Int × Int)) (w : World)
    (HLa : Hid (Rd w w.heap.size (.slice Aa bsa.length ca) bsa.length (flc bsa))) (HGa : Hid (Rd w w.heap.size (.slice Ba gsa.length da) gsa.length (spc gsa))) (HLb : Hid (Rd w w.heap.size (.slice Ab bsb.length cb) bsb.length (flc bsb))) (HGb : Hid (Rd w w.heap.size (.slice Bb gsb.length db) gsb.length (spc gsb))) (HS : Hid (nma.size ≤ maxLen ∧ nmb.size ≤ maxLen))
    (S1 : Hid (shortR nma.size bsa.length gsa.length = true)) (S2 : Hid (shortR nmb.size bsb.length gsb.length = true)) (S3 : Hid ((chkRec nma sta bsa gsa != 0) = false)) (S4 : Hid ((chkRec nmb stb bsb gsb != 0) = false)) (S5 : Hid (¬ sta = stb)) :
    Calls Tryz.prog 3 #[.agg #[.string nma, .int .i64 sta, .slice Aa bsa.length ca, .slice Ba gsa.length da], .agg #[.string nmb, .int .i64 stb, .slice Ab bsb.length cb, .slice Bb gsb.length db], .agg #[.int .u8 x0, .int .u8 x1]] w fun e w' => e = .returned (.bool true) ∧ Below w.heap.size w w' := by
  obtain ⟨W1, hW1⟩ : ∃ W1, W1 = (((w.alloc (Obj.cells #[.string nma, .int .i64 sta, .slice Aa bsa.length ca, .slice Ba gsa.length da] 25)).alloc (Obj.cells #[.string nmb, .int .i64 stb, .slice Ab bsb.length cb, .slice Bb gsb.length db] 25)).alloc (Obj.cells #[.int .u8 x0, .int .u8 x1] 26)) := ⟨_, rfl⟩
  have hb1 : Below w.heap.size w W1 := by rw [hW1]; exact (((Below.refl _ w).alloc (Nat.le_refl _) _).alloc (by simp) _).alloc (by simp; omega) _
  have HQA := hd (show W1.heap[w.heap.size]? = some (.cells #[.string nma, .int .i64 sta, .slice Aa bsa.length ca, .slice Ba gsa.length da] 25 (0, 0)) by rw [hW1]; exact (Below.heap_alloc _ _ _ (by simp; omega)).trans ((Below.heap_alloc _ _ _ (by simp)).trans (blk_new _ _ _)))
  have HQB := hd (show W1.heap[w.heap.size + 1]? = some (.cells #[.string nmb, .int .i64 stb, .slice Ab bsb.length cb, .slice Bb gsb.length db] 25 (0, 0)) by
    have h := blk_new (w.alloc (Obj.cells #[.string nma, .int .i64 sta, .slice Aa bsa.length ca, .slice Ba gsa.length da] 25)) #[.string nmb, .int .i64 stb, .slice Ab bsb.length cb, .slice Bb gsb.length db] 25
    rw [World.size_alloc] at h
    rw [hW1]; exact (Below.heap_alloc _ _ _ (by simp)).trans h)
  have HB := hd hb1
  have RLa := hd ((HLa.out.below hb1 (Nat.le_refl _)).mono hb1.size)
  have RGa := hd ((HGa.out.below hb1 (Nat.le_refl _)).mono hb1.size)
  have RLb := hd ((HLb.out.below hb1 (Nat.le_refl _)).mono hb1.size)
  have RGb := hd ((HGb.out.below hb1 (Nat.le_refl _)).mono hb1.size)
  clear hb1
  go_enter Tryz.func3, Tryz.ntmps3
  go_wp2_with fail
  rw [← hW1]
  clear hW1
  refine (short_any nma sta Aa Ba bsa.length ca gsa.length da _).mono ?_
  rw [S1.out]
  rintro e z0 ⟨rfl, hb⟩
  replace HQA := hd ((hb.block _ (blk_lt HQA.out)).trans HQA.out)
  replace HQB := hd ((hb.block _ (blk_lt HQB.out)).trans HQB.out)
  replace HB := hd (HB.out.trans (hb.mono HB.out.size))
  replace RLa := hd ((RLa.out.below hb (Nat.le_refl _)).mono hb.size)
  replace RGa := hd ((RGa.out.below hb (Nat.le_refl _)).mono hb.size)
  replace RLb := hd ((RLb.out.below hb (Nat.le_refl _)).mono hb.size)
  replace RGb := hd ((RGb.out.below hb (Nat.le_refl _)).mono hb.size)
  clear hb
  have k0 := blk_cell HQA.out 0
  have k1 := blk_cell HQA.out 1
  have k2 := blk_cell HQA.out 2
  have k3 := blk_cell HQA.out 3
  simp at k0 k1 k2 k3
  have l0 := blk_cell HQB.out 0
  have l1 := blk_cell HQB.out 1
  have l2 := blk_cell HQB.out 2
  have l3 := blk_cell HQB.out 3
  simp at l0 l1 l2 l3
  go_wp2_with fail
  refine (short_any nmb stb Ab Bb bsb.length cb gsb.length db _).mono ?_
  rw [S2.out]
  rintro e z1 ⟨rfl, hb⟩
  replace HQA := hd ((hb.block _ (blk_lt HQA.out)).trans HQA.out)
  replace HQB := hd ((hb.block _ (blk_lt HQB.out)).trans HQB.out)
  replace HB := hd (HB.out.trans (hb.mono HB.out.size))
  replace RLa := hd ((RLa.out.below hb (Nat.le_refl _)).mono hb.size)
  replace RGa := hd ((RGa.out.below hb (Nat.le_refl _)).mono hb.size)
  replace RLb := hd ((RLb.out.below hb (Nat.le_refl _)).mono hb.size)
  replace RGb := hd ((RGb.out.below hb (Nat.le_refl _)).mono hb.size)
  clear hb
  clear k0 k1 k2 k3 l0 l1 l2 l3
  have k0 := blk_cell HQA.out 0
  have k1 := blk_cell HQA.out 1
  have k2 := blk_cell HQA.out 2
  have k3 := blk_cell HQA.out 3
  simp at k0 k1 k2 k3
  have l0 := blk_cell HQB.out 0
  have l1 := blk_cell HQB.out 1
  have l2 := blk_cell HQB.out 2
  have l3 := blk_cell HQB.out 3
  simp at l0 l1 l2 l3
  go_wp2_with fail
  refine (refRec_any nma sta _ _ bsa gsa _ RLa.out RGa.out HS.out.1).mono ?_
  have S3' := S3.out
  generalize chkRec nma sta bsa gsa = E1 at S3' ⊢
  rintro e z2 ⟨rfl, hb⟩
  replace HQA := hd ((hb.block _ (blk_lt HQA.out)).trans HQA.out)
  replace HQB := hd ((hb.block _ (blk_lt HQB.out)).trans HQB.out)
  replace HB := hd (HB.out.trans (hb.mono HB.out.size))
  replace RLa := hd ((RLa.out.below hb (Nat.le_refl _)).mono hb.size)
  replace RGa := hd ((RGa.out.below hb (Nat.le_refl _)).mono hb.size)
  replace RLb := hd ((RLb.out.below hb (Nat.le_refl _)).mono hb.size)
  replace RGb := hd ((RGb.out.below hb (Nat.le_refl _)).mono hb.size)
  clear hb
  clear k0 k1 k2 k3 l0 l1 l2 l3
  have k0 := blk_cell HQA.out 0
  have k1 := blk_cell HQA.out 1
  have k2 := blk_cell HQA.out 2
  have k3 := blk_cell HQA.out 3
  simp at k0 k1 k2 k3
  have l0 := blk_cell HQB.out 0
  have l1 := blk_cell HQB.out 1
  have l2 := blk_cell HQB.out 2
  have l3 := blk_cell HQB.out 3
  simp at l0 l1 l2 l3
  go_wp2_with fail
  refine (refRec_any nmb stb _ _ bsb gsb _ RLb.out RGb.out HS.out.2).mono ?_
  have S4' := S4.out
  generalize chkRec nmb stb bsb gsb = E2 at S4' ⊢
  rintro e z3 ⟨rfl, hb⟩
  replace HQA := hd ((hb.block _ (blk_lt HQA.out)).trans HQA.out)
  replace HQB := hd ((hb.block _ (blk_lt HQB.out)).trans HQB.out)
  replace HB := hd (HB.out.trans (hb.mono HB.out.size))
  replace RLa := hd ((RLa.out.below hb (Nat.le_refl _)).mono hb.size)
  replace RGa := hd ((RGa.out.below hb (Nat.le_refl _)).mono hb.size)
  replace RLb := hd ((RLb.out.below hb (Nat.le_refl _)).mono hb.size)
  replace RGb := hd ((RGb.out.below hb (Nat.le_refl _)).mono hb.size)
  clear hb
  clear k0 k1 k2 k3 l0 l1 l2 l3
  have S5' := S5.out
  have k0 := blk_cell HQA.out 0
  have k1 := blk_cell HQA.out 1
  have k2 := blk_cell HQA.out 2
  have k3 := blk_cell HQA.out 3
  simp at k0 k1 k2 k3
  have l0 := blk_cell HQB.out 0
  have l1 := blk_cell HQB.out 1
  have l2 := blk_cell HQB.out 2
  have l3 := blk_cell HQB.out 3
  simp at l0 l1 l2 l3
  go_wp2_with fail
  refine (sGauge_any _).mono ?_
  rintro e z4 ⟨rfl, hb⟩
  replace HQA := hd ((hb.block _ (blk_lt HQA.out)).trans HQA.out)
  replace HQB := hd ((hb.block _ (blk_lt HQB.out)).trans HQB.out)
  replace HB := hd (HB.out.trans (hb.mono HB.out.size))
  replace RLa := hd ((RLa.out.below hb (Nat.le_refl _)).mono hb.size)
  replace RGa := hd ((RGa.out.below hb (Nat.le_refl _)).mono hb.size)
  replace RLb := hd ((RLb.out.below hb (Nat.le_refl _)).mono hb.size)
  replace RGb := hd ((RGb.out.below hb (Nat.le_refl _)).mono hb.size)
  clear hb
  go_wp2_with fail
  go_returns
  exact ⟨rfl, HB.out⟩

set_option maxRecDepth 1000000 in
set_option maxHeartbeats 4000000 in
theorem sVotes_long6 (nma nmb : ByteArray) (sta stb x0 x1 : Int) (Aa Ba Ab Bb : Option Addr) (ca da cb db : Nat) (bsa bsb : List Nat) (gsa gsb : List (Int × Int)) (w : World)
    (HLa : Hid (Rd w w.heap.size (.slice Aa bsa.length ca) bsa.length (flc bsa))) (HGa : Hid (Rd w w.heap.size (.slice Ba gsa.length da) gsa.length (spc gsa))) (HLb : Hid (Rd w w.heap.size (.slice Ab bsb.length cb) bsb.length (flc bsb))) (HGb : Hid (Rd w w.heap.size (.slice Bb gsb.length db) gsb.length (spc gsb))) (HS : Hid (nma.size ≤ maxLen ∧ nmb.size ≤ maxLen))
    (S1 : Hid (shortR nma.size bsa.length gsa.length = true)) (S2 : Hid (shortR nmb.size bsb.length gsb.length = true)) (S3 : Hid ((chkRec nma sta bsa gsa != 0) = false)) (S4 : Hid ((chkRec nmb stb bsb gsb != 0) = false)) (S5 : Hid (sta = stb)) (S6 : Hid (¬ bsa.length = bsb.length)) :
    Calls Tryz.prog 3 #[.agg #[.string nma, .int .i64 sta, .slice Aa bsa.length ca, .slice Ba gsa.length da], .agg #[.string nmb, .int .i64 stb, .slice Ab bsb.length cb, .slice Bb gsb.length db], .agg #[.int .u8 x0, .int .u8 x1]] w fun e w' => e = .returned (.bool true) ∧ Below w.heap.size w w' := by
  obtain ⟨W1, hW1⟩ : ∃ W1, W1 = (((w.alloc (Obj.cells #[.string nma, .int .i64 sta, .slice Aa bsa.length ca, .slice Ba gsa.length da] 25)).alloc (Obj.cells #[.string nmb, .int .i64 stb, .slice Ab bsb.length cb, .slice Bb gsb.length db] 25)).alloc (Obj.cells #[.int .u8 x0, .int .u8 x1] 26)) := ⟨_, rfl⟩
  have hb1 : Below w.heap.size w W1 := by rw [hW1]; exact (((Below.refl _ w).alloc (Nat.le_refl _) _).alloc (by simp) _).alloc (by simp; omega) _
  have HQA := hd (show W1.heap[w.heap.size]? = some (.cells #[.string nma, .int .i64 sta, .slice Aa bsa.length ca, .slice Ba gsa.length da] 25 (0, 0)) by rw [hW1]; exact (Below.heap_alloc _ _ _ (by simp; omega)).trans ((Below.heap_alloc _ _ _ (by simp)).trans (blk_new _ _ _)))
  have HQB := hd (show W1.heap[w.heap.size + 1]? = some (.cells #[.string nmb, .int .i64 stb, .slice Ab bsb.length cb, .slice Bb gsb.length db] 25 (0, 0)) by
    have h := blk_new (w.alloc (Obj.cells #[.string nma, .int .i64 sta, .slice Aa bsa.length ca, .slice Ba gsa.length da] 25)) #[.string nmb, .int .i64 stb, .slice Ab bsb.length cb, .slice Bb gsb.length db] 25
    rw [World.size_alloc] at h
    rw [hW1]; exact (Below.heap_alloc _ _ _ (by simp)).trans h)
  have HB := hd hb1
  have RLa := hd ((HLa.out.below hb1 (Nat.le_refl _)).mono hb1.size)
  have RGa := hd ((HGa.out.below hb1 (Nat.le_refl _)).mono hb1.size)
  have RLb := hd ((HLb.out.below hb1 (Nat.le_refl _)).mono hb1.size)
  have RGb := hd ((HGb.out.below hb1 (Nat.le_refl _)).mono hb1.size)
  clear hb1
  go_enter Tryz.func3, Tryz.ntmps3
  go_wp2_with fail
  rw [← hW1]
  clear hW1
  refine (short_any nma sta Aa Ba bsa.length ca gsa.length da _).mono ?_
  rw [S1.out]
  rintro e z0 ⟨rfl, hb⟩
  replace HQA := hd ((hb.block _ (blk_lt HQA.out)).trans HQA.out)
  replace HQB := hd ((hb.block _ (blk_lt HQB.out)).trans HQB.out)
  replace HB := hd (HB.out.trans (hb.mono HB.out.size))
  replace RLa := hd ((RLa.out.below hb (Nat.le_refl _)).mono hb.size)
  replace RGa := hd ((RGa.out.below hb (Nat.le_refl _)).mono hb.size)
  replace RLb := hd ((RLb.out.below hb (Nat.le_refl _)).mono hb.size)
  replace RGb := hd ((RGb.out.below hb (Nat.le_refl _)).mono hb.size)
  clear hb
  have k0 := blk_cell HQA.out 0
  have k1 := blk_cell HQA.out 1
  have k2 := blk_cell HQA.out 2
  have k3 := blk_cell HQA.out 3
  simp at k0 k1 k2 k3
  have l0 := blk_cell HQB.out 0
  have l1 := blk_cell HQB.out 1
  have l2 := blk_cell HQB.out 2
  have l3 := blk_cell HQB.out 3
  simp at l0 l1 l2 l3
  go_wp2_with fail
  refine (short_any nmb stb Ab Bb bsb.length cb gsb.length db _).mono ?_
  rw [S2.out]
  rintro e z1 ⟨rfl, hb⟩
  replace HQA := hd ((hb.block _ (blk_lt HQA.out)).trans HQA.out)
  replace HQB := hd ((hb.block _ (blk_lt HQB.out)).trans HQB.out)
  replace HB := hd (HB.out.trans (hb.mono HB.out.size))
  replace RLa := hd ((RLa.out.below hb (Nat.le_refl _)).mono hb.size)
  replace RGa := hd ((RGa.out.below hb (Nat.le_refl _)).mono hb.size)
  replace RLb := hd ((RLb.out.below hb (Nat.le_refl _)).mono hb.size)
  replace RGb := hd ((RGb.out.below hb (Nat.le_refl _)).mono hb.size)
  clear hb
  clear k0 k1 k2 k3 l0 l1 l2 l3
  have k0 := blk_cell HQA.out 0
  have k1 := blk_cell HQA.out 1
  have k2 := blk_cell HQA.out 2
  have k3 := blk_cell HQA.out 3
  simp at k0 k1 k2 k3
  have l0 := blk_cell HQB.out 0
  have l1 := blk_cell HQB.out 1
  have l2 := blk_cell HQB.out 2
  have l3 := blk_cell HQB.out 3
  simp at l0 l1 l2 l3
  go_wp2_with fail
  refine (refRec_any nma sta _ _ bsa gsa _ RLa.out RGa.out HS.out.1).mono ?_
  have S3' := S3.out
  generalize chkRec nma sta bsa gsa = E1 at S3' ⊢
  rintro e z2 ⟨rfl, hb⟩
  replace HQA := hd ((hb.block _ (blk_lt HQA.out)).trans HQA.out)
  replace HQB := hd ((hb.block _ (blk_lt HQB.out)).trans HQB.out)
  replace HB := hd (HB.out.trans (hb.mono HB.out.size))
  replace RLa := hd ((RLa.out.below hb (Nat.le_refl _)).mono hb.size)
  replace RGa := hd ((RGa.out.below hb (Nat.le_refl _)).mono hb.size)
  replace RLb := hd ((RLb.out.below hb (Nat.le_refl _)).mono hb.size)
  replace RGb := hd ((RGb.out.below hb (Nat.le_refl _)).mono hb.size)
  clear hb
  clear k0 k1 k2 k3 l0 l1 l2 l3
  have k0 := blk_cell HQA.out 0
  have k1 := blk_cell HQA.out 1
  have k2 := blk_cell HQA.out 2
  have k3 := blk_cell HQA.out 3
  simp at k0 k1 k2 k3
  have l0 := blk_cell HQB.out 0
  have l1 := blk_cell HQB.out 1
  have l2 := blk_cell HQB.out 2
  have l3 := blk_cell HQB.out 3
  simp at l0 l1 l2 l3
  go_wp2_with fail
  refine (refRec_any nmb stb _ _ bsb gsb _ RLb.out RGb.out HS.out.2).mono ?_
  have S4' := S4.out
  generalize chkRec nmb stb bsb gsb = E2 at S4' ⊢
  rintro e z3 ⟨rfl, hb⟩
  replace HQA := hd ((hb.block _ (blk_lt HQA.out)).trans HQA.out)
  replace HQB := hd ((hb.block _ (blk_lt HQB.out)).trans HQB.out)
  replace HB := hd (HB.out.trans (hb.mono HB.out.size))
  replace RLa := hd ((RLa.out.below hb (Nat.le_refl _)).mono hb.size)
  replace RGa := hd ((RGa.out.below hb (Nat.le_refl _)).mono hb.size)
  replace RLb := hd ((RLb.out.below hb (Nat.le_refl _)).mono hb.size)
  replace RGb := hd ((RGb.out.below hb (Nat.le_refl _)).mono hb.size)
  clear hb
  clear k0 k1 k2 k3 l0 l1 l2 l3
  have S5' := S5.out
  have k0 := blk_cell HQA.out 0
  have k1 := blk_cell HQA.out 1
  have k2 := blk_cell HQA.out 2
  have k3 := blk_cell HQA.out 3
  simp at k0 k1 k2 k3
  have l0 := blk_cell HQB.out 0
  have l1 := blk_cell HQB.out 1
  have l2 := blk_cell HQB.out 2
  have l3 := blk_cell HQB.out 3
  simp at l0 l1 l2 l3
  have S6' := S6.out
  have S7' : ¬ (bsa.length : Int) = (bsb.length : Int) := by omega
  go_wp2_with fail
  refine (sGauge_any _).mono ?_
  rintro e z4 ⟨rfl, hb⟩
  replace HQA := hd ((hb.block _ (blk_lt HQA.out)).trans HQA.out)
  replace HQB := hd ((hb.block _ (blk_lt HQB.out)).trans HQB.out)
  replace HB := hd (HB.out.trans (hb.mono HB.out.size))
  replace RLa := hd ((RLa.out.below hb (Nat.le_refl _)).mono hb.size)
  replace RGa := hd ((RGa.out.below hb (Nat.le_refl _)).mono hb.size)
  replace RLb := hd ((RLb.out.below hb (Nat.le_refl _)).mono hb.size)
  replace RGb := hd ((RGb.out.below hb (Nat.le_refl _)).mono hb.size)
  clear hb
  go_wp2_with fail
  go_returns
  exact ⟨rfl, HB.out⟩

set_option maxHeartbeats 1000000 in
/-- The vote of two equal gauges and a third one. -/
theorem vote_tri (p : Nat) (hp : p = 0 ∨ p = 2) (nma nmb : ByteArray) (st tol : Int) (bsa bsb : List Nat) (gsa gsb : List (Int × Int)) (hlen : bsb.length = bsa.length) (Va : Valid nma st bsa gsa) (Vb : Valid nmb st bsb gsb) (Ca : Can gsa) (Cb : Can gsb) (la : ∀ i, i < bsa.length → chkLev (bsa.getD i 0) = 0) (lb : ∀ i, i < bsa.length → chkLev (bsb.getD i 0) = 0) (ht : 0 ≤ tol ∧ tol ≤ 2048) (lv gv : Nat → Value) (W : World)
    (hl : ∀ g, g < 3 → Rd W W.heap.size (lv g) (tri p bsa bsb g).length (flc (tri p bsa bsb g))) (hg : ∀ g, g < 3 → Rd W W.heap.size (gv g) (tri p gsa gsb g).length (spc (tri p gsa gsb g))) :
    Calls Tryz.prog 7 #[.agg (rec3 (tri p nma nmb) (fun _ => st) lv gv), .int .i64 tol] W (GotV (tri p nma nmb 0) st (if 0 = p then farF bsa bsb gsa gsb tol bsa.length else 0) (if 1 = p then farF bsa bsb gsa gsb tol bsa.length else 0) (if 2 = p then farF bsa bsb gsa gsb tol bsa.length else 0) (asmK (vLev (balF (tri p bsa bsb) (tri p gsa gsb) 3) tol bsa.length bsa.length) (vMrk (balF (tri p bsa bsb) (tri p gsa gsb) 3) tol bsa.length bsa.length) bsa.length) gsa W) := by
  have hgl : ∀ g, (tri p bsa bsb g).length = bsa.length := fun g => by unfold tri; split <;> simp [hlen]
  have B := tri_both (p := p) (rfl : bsa.length = bsa.length) hlen Ca Cb la lb
  refine (vote_any (tri p nma nmb) (fun _ => st) lv gv (tri p bsa bsb) (tri p gsa gsb) tol W hl hg ?_ ?_ (fun _ _ => rfl) ht).mono ?_
  · intro g _
    unfold tri
    split
    · exact Vb
    · exact Va
  · intro g _; rw [hgl, hgl]
  · rintro e w' ⟨lv', gv', rfl, h1, h2, h3⟩
    rw [hgl] at h1 h2
    rw [hgl, B.cnt tol (by omega) _ (Nat.le_refl _), B.cnt tol (by omega) _ (Nat.le_refl _), B.cnt tol (by omega) _ (Nat.le_refl _), tri_cnt hp ht.1 0, tri_cnt hp ht.1 1, tri_cnt hp ht.1 2]
    rw [tri_gaps hp ht.1 B Va Ca] at h2
    exact ⟨lv', gv', rfl, by rw [tri_len]; exact h1, h2, h3⟩

set_option maxHeartbeats 1000000 in
theorem sVotes_all (nma nmb : ByteArray) (sta stb x0 x1 : Int) (lva gva lvb gvb : Value) (bsa bsb : List Nat) (gsa gsb : List (Int × Int)) (w : World) (hla : Rd w w.heap.size lva bsa.length (flc bsa)) (hga : Rd w w.heap.size gva gsa.length (spc gsa)) (hlb : Rd w w.heap.size lvb bsb.length (flc bsb)) (hgb : Rd w w.heap.size gvb gsb.length (spc gsb)) (fla : Full lva) (fga : Full gva) (flb : Full lvb) (fgb : Full gvb) (hsa : nma.size ≤ maxLen) (hsb : nmb.size ≤ maxLen) (hx0 : 0 ≤ x0 ∧ x0 ≤ 255) (hx1 : 0 ≤ x1 ∧ x1 ≤ 255) :
    Calls Tryz.prog 3 #[.agg #[.string nma, .int .i64 sta, lva, gva], .agg #[.string nmb, .int .i64 stb, lvb, gvb], .agg #[.int .u8 x0, .int .u8 x1]] w fun e w' => e = .returned (.bool true) ∧ Below w.heap.size w w' := by
  obtain ⟨Aa, ca, rfl, -⟩ := id hla
  obtain ⟨Ba, da, rfl, -⟩ := id hga
  obtain ⟨Ab, cb, rfl, -⟩ := id hlb
  obtain ⟨Bb, db, rfl, -⟩ := id hgb
  have hHS := hd (And.intro hsa hsb)
  cases h1 : shortR nma.size bsa.length gsa.length
  · exact sVotes_long1 nma nmb sta stb x0 x1 Aa Ba Ab Bb ca da cb db bsa bsb gsa gsb w (hd h1)
  cases h2 : shortR nmb.size bsb.length gsb.length
  · exact sVotes_long2 nma nmb sta stb x0 x1 Aa Ba Ab Bb ca da cb db bsa bsb gsa gsb w (hd h1) (hd h2)
  by_cases hEa : chkRec nma sta bsa gsa = 0
  rotate_left
  · exact sVotes_long3 nma nmb sta stb x0 x1 Aa Ba Ab Bb ca da cb db bsa bsb gsa gsb w (hd hla) (hd hga) (hd hlb) (hd hgb) hHS (hd h1) (hd h2) (hd (by simpa using hEa))
  by_cases hEb : chkRec nmb stb bsb gsb = 0
  rotate_left
  · exact sVotes_long4 nma nmb sta stb x0 x1 Aa Ba Ab Bb ca da cb db bsa bsb gsa gsb w (hd hla) (hd hga) (hd hlb) (hd hgb) hHS (hd h1) (hd h2) (hd (by simpa using hEa)) (hd (by simpa using hEb))
  by_cases h5 : sta = stb
  rotate_left
  · exact sVotes_long5 nma nmb sta stb x0 x1 Aa Ba Ab Bb ca da cb db bsa bsb gsa gsb w (hd hla) (hd hga) (hd hlb) (hd hgb) hHS (hd h1) (hd h2) (hd (by simpa using hEa)) (hd (by simpa using hEb)) (hd h5)
  by_cases h6 : bsa.length = bsb.length
  rotate_left
  · exact sVotes_long6 nma nmb sta stb x0 x1 Aa Ba Ab Bb ca da cb db bsa bsb gsa gsb w (hd hla) (hd hga) (hd hlb) (hd hgb) hHS (hd h1) (hd h2) (hd (by simpa using hEa)) (hd (by simpa using hEb)) (hd h5) (hd h6)
  subst h5
  have hlen := h6.symm
  obtain ⟨Va, Ca, la⟩ := valid_of hEa hsa
  obtain ⟨Vb, Cb, lb⟩ := valid_of hEb hsb
  have lb' : ∀ i, i < bsa.length → chkLev (bsb.getD i 0) = 0 := fun i hi => lb i (by omega)
  have ma := Va.most
  have mb := Vb.most
  have na := (chkSpans_ok gsa Va.spans).1
  have nb := (chkSpans_ok gsb Vb.spans).1
  have ht : 0 ≤ x0 := hx0.1
  have B2 := tri_both (p := 2) (rfl : bsa.length = bsa.length) hlen Ca Cb la lb'
  have B0 := tri_both (p := 0) (rfl : bsa.length = bsa.length) hlen Ca Cb la lb'
  have hwd : 0 ≤ x1 % 12 ∧ x1 % 12 < 12 := ⟨by omega, by omega⟩
  obtain ⟨wd, hw⟩ := Int.eq_ofNat_of_zero_le (show 0 ≤ 1 + x1 % 12 by omega)
  have CRa := hd (fun (X : World) (lv gv : Value) (h : Rd X X.heap.size lv bsa.length (flc bsa)) (h' : Rd X X.heap.size gv gsa.length (spc gsa)) => show Calls Tryz.prog 5 #[.agg #[.string nma, .int .i64 sta, lv, gv]] X (fun e w' => e = .returned (.int .i64 0) ∧ Below X.heap.size X w') from (refRec_any nma sta lv gv bsa gsa X h h' hsa).mono fun e w' ⟨he, hb⟩ => ⟨by rw [he, hEa], hb⟩)
  have CRb := hd (fun (X : World) (lv gv : Value) (h : Rd X X.heap.size lv bsb.length (flc bsb)) (h' : Rd X X.heap.size gv gsb.length (spc gsb)) => show Calls Tryz.prog 5 #[.agg #[.string nmb, .int .i64 sta, lv, gv]] X (fun e w' => e = .returned (.int .i64 0) ∧ Below X.heap.size X w') from (refRec_any nmb sta lv gv bsb gsb X h h' hsb).mono fun e w' ⟨he, hb⟩ => ⟨by rw [he, hEb], hb⟩)
  have G4 := hd (fun (X : World) (u0 v0 u1 v1 u2 v2 : Value) (h0 : Rd X X.heap.size u0 bsa.length (flc bsa)) (k0 : Rd X X.heap.size v0 gsa.length (spc gsa)) (h1 : Rd X X.heap.size u1 bsa.length (flc bsa)) (k1 : Rd X X.heap.size v1 gsa.length (spc gsa)) (h2 : Rd X X.heap.size u2 bsb.length (flc bsb)) (k2 : Rd X X.heap.size v2 gsb.length (spc gsb)) => show Calls Tryz.prog 7 #[.agg #[.string nma, .int .i64 sta, u0, v0, .string nma, .int .i64 sta, u1, v1, .string nmb, .int .i64 sta, u2, v2], .int .i64 x0] X (GotV nma sta 0 0 (farF bsa bsb gsa gsb x0 bsa.length) (asmK (vLev (balF (tri 2 bsa bsb) (tri 2 gsa gsb) 3) x0 bsa.length bsa.length) (vMrk (balF (tri 2 bsa bsb) (tri 2 gsa gsb) 3) x0 bsa.length bsa.length) bsa.length) gsa X) from
          vote_tri 2 (.inr rfl) nma nmb sta x0 bsa bsb gsa gsb hlen Va Vb Ca Cb la lb' ⟨hx0.1, by omega⟩ (fn3 u0 u1 u2) (fn3 v0 v1 v2) X (fun g hg => by rcases (show g = 0 ∨ g = 1 ∨ g = 2 by omega) with rfl | rfl | rfl; (exact h0); (exact h1); (exact h2)) (fun g hg => by rcases (show g = 0 ∨ g = 1 ∨ g = 2 by omega) with rfl | rfl | rfl; (exact k0); (exact k1); (exact k2)))
  have G5 := hd (fun (X : World) (u0 v0 u1 v1 u2 v2 : Value) (h0 : Rd X X.heap.size u0 bsb.length (flc bsb)) (k0 : Rd X X.heap.size v0 gsb.length (spc gsb)) (h1 : Rd X X.heap.size u1 bsa.length (flc bsa)) (k1 : Rd X X.heap.size v1 gsa.length (spc gsa)) (h2 : Rd X X.heap.size u2 bsa.length (flc bsa)) (k2 : Rd X X.heap.size v2 gsa.length (spc gsa)) => show Calls Tryz.prog 7 #[.agg #[.string nmb, .int .i64 sta, u0, v0, .string nma, .int .i64 sta, u1, v1, .string nma, .int .i64 sta, u2, v2], .int .i64 x0] X (GotV nmb sta (farF bsa bsb gsa gsb x0 bsa.length) 0 0 (asmK (vLev (balF (tri 0 bsa bsb) (tri 0 gsa gsb) 3) x0 bsa.length bsa.length) (vMrk (balF (tri 0 bsa bsb) (tri 0 gsa gsb) 3) x0 bsa.length bsa.length) bsa.length) gsa X) from
          vote_tri 0 (.inl rfl) nma nmb sta x0 bsa bsb gsa gsb hlen Va Vb Ca Cb la lb' ⟨hx0.1, by omega⟩ (fn3 u0 u1 u2) (fn3 v0 v1 v2) X (fun g hg => by rcases (show g = 0 ∨ g = 1 ∨ g = 2 by omega) with rfl | rfl | rfl; (exact h0); (exact h1); (exact h2)) (fun g hg => by rcases (show g = 0 ∨ g = 1 ∨ g = 2 by omega) with rfl | rfl | rfl; (exact k0); (exact k1); (exact k2)))
  have HH4 := hd (fun (X : World) (lv gv : Value) (h : Rd X X.heap.size lv bsa.length (flc bsa)) (h' : Rd X X.heap.size gv gsa.length (spc gsa)) => show Calls Tryz.prog 13 #[.agg #[.string nma, .int .i64 sta, lv, gv], .int .i64 wd] X (HiR (selM (wat fgt (knL gsa bsa.length) bsa wd) (itm gsa (fLvM bsa) bsa.length)) X) from (highs_any nma sta lv gv bsa gsa wd X h h' Va (by omega) (by omega)).mono fun e w' ⟨v, he, q, hb⟩ => ⟨v, he, rd_of_own q, hb⟩)
  have HH5 := hd (fun (X : World) (lv gv : Value) (h : Rd X X.heap.size lv (asmK (vLev (balF (tri 2 bsa bsb) (tri 2 gsa gsb) 3) x0 bsa.length bsa.length) (vMrk (balF (tri 2 bsa bsb) (tri 2 gsa gsb) 3) x0 bsa.length bsa.length) bsa.length).length (flc (asmK (vLev (balF (tri 2 bsa bsb) (tri 2 gsa gsb) 3) x0 bsa.length bsa.length) (vMrk (balF (tri 2 bsa bsb) (tri 2 gsa gsb) 3) x0 bsa.length bsa.length) bsa.length))) (h' : Rd X X.heap.size gv gsa.length (spc gsa)) => show Calls Tryz.prog 13 #[.agg #[.string nma, .int .i64 sta, lv, gv], .int .i64 wd] X (HiR (selM (wat fgt (knL gsa bsa.length) bsa wd) (itm gsa (fLvM bsa) bsa.length)) X) from (highs_any nma sta lv gv _ gsa wd X h h' (tri_valid (.inr rfl) ht B2 Va la) (by omega) (by omega)).mono fun e w' ⟨v, he, q, hb⟩ => ⟨v, he, by rw [tri_highs (.inr rfl) ht B2 Va Ca la] at q; exact rd_of_own q, hb⟩)
  exact sVotes_walk nma nmb sta x0 x1 _ Aa Ba Ab Bb ca da cb db wd bsa bsb _ _ gsa gsb _ w (hd hla) (hd hga) (hd fla) (hd fga) (hd h1) CRa (hd hlb) (hd hgb) (hd flb) (hd fgb) (hd h2) CRb (hd ⟨by omega, by omega, by omega, by omega⟩) (hd hlen) (hd hx0) (hd hx1) (hd hw) (hd (fun j hj => ⟨la j hj, lb' j hj⟩)) G4 G5 (hd rfl) (hd (tri_same (.inr rfl) ht B2 Va la)) (hd (tri_same (.inl rfl) ht B0 Va la)) (hd (by rw [tri_len]; omega)) HH4 HH5
end Go.Proofs.YtkgeeooijgcdkaaGreatDoor
