/-
  Contracts of gauge.Reasons and gauge.Clean. Conditions: a valid record, valid rules.
  Contract of the statements' hook: the record of the document's examples. No condition.
  What the statements' example gives, by plain words and by the kernel.
  The contracts that the statements' example calls, at its values.
-/
import Derived.Test.YtnncmaegmlaabaaGreatDoorProg
import Derived.Test.YtnncmaegmlaabaaGreatDoorK5
import Derived.Test.YtnncmaegmlaabaaGreatDoorMS
import Derived.Test.YtnncmaegmlaabaaGreatDoorMN
import Derived.Test.YtnncmaegmlaabaaGreatDoorMK
import Derived.Test.YtnncmaegmlaabaaGreatDoorMQ
import Derived.Test.YtnncmaegmlaabaaGreatDoorShelfB
import Derived.Test.YtnncmaegmlaabaaGreatDoorMI
import Derived.Test.YtnncmaegmlaabaaGreatDoorMJ
import Derived.Test.YtnncmaegmlaabaaGreatDoorMR

namespace Go.Proofs.YtnncmaegmlaabaaGreatDoor
open Go.RowKit

set_option maxRecDepth 1000000 in
set_option maxHeartbeats 2000000 in
theorem reasons_ok (nm : ByteArray) (st : Int) (lv gv rv : Value) (bs : List Nat) (gs : List (Int × Int)) (l : List Ru) (w : World) (hl : Rd w w.heap.size lv bs.length (flc bs)) (hg : Rd w w.heap.size gv gs.length (spc gs)) (hr : Rd w w.heap.size rv l.length (ruc l)) (V : Valid nm st bs gs) (h0 : chkRules l = 0) :
    Calls Tryz.prog 24 #[.agg #[.string nm, .int .i64 st, lv, gv], rv] w fun e w' => ∃ xv, e = .returned (.tuple #[xv, .int .i64 0]) ∧ w'.ownsRow w.heap.size 3 1 xv (apF bs gs l l.length).2.2.length ((apF bs gs l l.length).2.2.map (Value.int .i64)) ∧ Below w.heap.size w w' := by
  have HL := hd hl
  have HG := hd hg
  have HR := hd hr
  have hl2 := hl
  have hg2 := hg
  have hr2 := hr
  obtain ⟨A1, c1, rfl, -, -, -⟩ := hl2
  obtain ⟨A2, c2, rfl, -, -, -⟩ := hg2
  obtain ⟨A3, c3, rfl, -, -, -⟩ := hr2
  have HV := hd (And.intro V h0)
  clear hl hg hr V h0
  go_enter Tryz.func24, Tryz.ntmps24
  go_wp2_with fail
  have hb0 : Below w.heap.size w (w.alloc (Obj.cells #[.string nm, .int .i64 st, .slice A1 bs.length c1, .slice A2 gs.length c2] 31)) := (Below.refl _ w).alloc (Nat.le_refl _) _
  refine (apply_ok nm st _ _ _ bs gs l _ ((HL.out.below hb0 (Nat.le_refl _)).mono hb0.size) ((HG.out.below hb0 (Nat.le_refl _)).mono hb0.size) ((HR.out.below hb0 (Nat.le_refl _)).mono hb0.size) HV.out.1 HV.out.2).mono ?_
  rintro e w1 ⟨lv, gv, xv, rfl, hol, hog, hox, hb1⟩
  obtain ⟨A4, c4, hv4, -⟩ := own_form hol
  obtain ⟨A5, c5, hv5, -⟩ := own_form hog
  obtain ⟨A6, c6, hv6, -⟩ := own_form hox
  subst hv4
  subst hv5
  subst hv6
  have hB := hb0.trans (hb1.mono hb0.size)
  have HX := hd (fun o => own_base (hox.alloc o) hb0.size)
  have HB := hd (fun o => hB.alloc hB.size o)
  clear hol hog hox hb0 hb1 hB
  go_wp2
  go_returns
  exact ⟨_, rfl, HX.out _, HB.out _⟩

set_option maxRecDepth 1000000 in
set_option maxHeartbeats 2000000 in
theorem clean_ok (nm : ByteArray) (st : Int) (lv gv rv : Value) (bs : List Nat) (gs : List (Int × Int)) (l : List Ru) (w : World) (hl : Rd w w.heap.size lv bs.length (flc bs)) (hg : Rd w w.heap.size gv gs.length (spc gs)) (hr : Rd w w.heap.size rv l.length (ruc l)) (V : Valid nm st bs gs) (h0 : chkRules l = 0) :
    Calls Tryz.prog 21 #[.agg #[.string nm, .int .i64 st, lv, gv], rv] w fun e w' => ∃ lv gv, e = .returned (.tuple #[.agg #[.string nm, .int .i64 st, lv, gv], .int .i64 0]) ∧ w'.ownsRow w.heap.size 65 1 lv (apF bs gs l l.length).1.length (flc (apF bs gs l l.length).1) ∧ w'.ownsRow w.heap.size 63 2 gv (apF bs gs l l.length).2.1.length (spc (apF bs gs l l.length).2.1) ∧ Below w.heap.size w w' := by
  have HL := hd hl
  have HG := hd hg
  have HR := hd hr
  have hl2 := hl
  have hg2 := hg
  have hr2 := hr
  obtain ⟨A1, c1, rfl, -, -, -⟩ := hl2
  obtain ⟨A2, c2, rfl, -, -, -⟩ := hg2
  obtain ⟨A3, c3, rfl, -, -, -⟩ := hr2
  have HV := hd (And.intro V h0)
  clear hl hg hr V h0
  go_enter Tryz.func21, Tryz.ntmps21
  go_wp2_with fail
  obtain ⟨W0, hW0⟩ : ∃ W0, W0 = ((w.alloc (.cells #[.string nm, .int .i64 st, .slice A1 bs.length c1, .slice A2 gs.length c2] 31)).alloc (.cells #[.string ⟨#[]⟩, .int .i64 0, .slice none 0 0, .slice none 0 0] 31)) := ⟨_, rfl⟩
  have hsz : W0.heap.size = w.heap.size + 2 := by rw [hW0]; simp
  have hb0 : Below w.heap.size w W0 := by rw [hW0]; exact ((Below.refl _ w).alloc (Nat.le_refl _) _).alloc (by simp) _
  have HRB := hd (show W0.heap[w.heap.size + 1]? = some (.cells #[.string ⟨#[]⟩, .int .i64 0, .slice none 0 0, .slice none 0 0] 31 (0, 0)) by
    have h1 := blk_new (w.alloc (.cells #[.string nm, .int .i64 st, .slice A1 bs.length c1, .slice A2 gs.length c2] 31)) #[.string ⟨#[]⟩, .int .i64 0, .slice none 0 0, .slice none 0 0] 31
    simp only [World.size_alloc] at h1
    rw [hW0]; exact h1)
  rw [← hW0]
  clear hW0
  refine (apply_ok nm st _ _ _ bs gs l _ ((HL.out.below hb0 (Nat.le_refl _)).mono hb0.size) ((HG.out.below hb0 (Nat.le_refl _)).mono hb0.size) ((HR.out.below hb0 (Nat.le_refl _)).mono hb0.size) HV.out.1 HV.out.2).mono ?_
  rintro e w1 ⟨lv, gv, xv, rfl, hol, hog, hox, hb1⟩
  obtain ⟨A4, c4, hv4, -⟩ := own_form hol
  obtain ⟨A5, c5, hv5, -⟩ := own_form hog
  obtain ⟨A6, c6, hv6, -⟩ := own_form hox
  have hs1 := hb1.size
  have hL0 := blk_new w1 #[.string nm, .int .i64 st, lv, gv] 31
  obtain ⟨w2, hw2⟩ : ∃ w2, w2 = w1.alloc (.cells #[.string nm, .int .i64 st, lv, gv] 31) := ⟨_, rfl⟩
  have hb2 : Below W0.heap.size W0 w2 := by rw [hw2]; exact hb1.alloc hs1 _
  have hl2 := hol.alloc (.cells #[.string nm, .int .i64 st, lv, gv] 31)
  have hg2 := hog.alloc (.cells #[.string nm, .int .i64 st, lv, gv] 31)
  rw [← hw2] at hL0 hl2 hg2
  have hB := hb0.trans (hb2.mono hb0.size)
  have hR3 := (hb2.block _ (show w.heap.size + 1 < W0.heap.size by omega)).trans HRB.out
  have x0 := blk_cell hR3 0
  have x1 := blk_cell hR3 1
  have x2 := blk_cell hR3 2
  have x3 := blk_cell hR3 3
  have xf := fun i => blk_frozen hR3 i
  have q0 := blk_cell hL0 0
  have q1 := blk_cell hL0 1
  have q2 := blk_cell hL0 2
  have q3 := blk_cell hL0 3
  simp at x0 x1 x2 x3 q0 q1 q2 q3
  have hq : w.heap.size + 1 < W0.heap.size := by omega
  have hp : w.heap.size ≤ w.heap.size + 1 := by omega
  have k7 : ∀ {e : TypeId} {size : Nat} {v : Value} {n : Nat} {xs : List Value}, w2.ownsRow W0.heap.size e size v n xs → ((((w2.setCell ⟨w.heap.size + 1, 0, none⟩ (.string nm)).setCell ⟨w.heap.size + 1, 1, none⟩ (.int .i64 st)).setCell ⟨w.heap.size + 1, 2, none⟩ lv).setCell ⟨w.heap.size + 1, 3, none⟩ gv).ownsRow w.heap.size e size v n xs := fun ho =>
    own_base (ownsRow_setCell_below (ownsRow_setCell_below (ownsRow_setCell_below (ownsRow_setCell_below ho (a := ⟨w.heap.size + 1, 0, none⟩) hq (.string nm)) (a := ⟨w.heap.size + 1, 1, none⟩) hq (.int .i64 st)) (a := ⟨w.heap.size + 1, 2, none⟩) hq lv) (a := ⟨w.heap.size + 1, 3, none⟩) hq gv) (by omega)
  have R7 := blk_set (blk_set (blk_set (blk_set hR3 0 (.string nm)) 1 (.int .i64 st)) 2 lv) 3 gv
  have z := fun i => blk_cell R7 i
  have z0 := z 0
  have z1 := z 1
  have z2 := z 2
  have z3 := z 3
  simp at z0 z1 z2 z3
  have B7 := (((hB.setCell (p := ⟨w.heap.size + 1, 0, none⟩) hp (.string nm)).setCell (p := ⟨w.heap.size + 1, 1, none⟩) hp (.int .i64 st)).setCell (p := ⟨w.heap.size + 1, 2, none⟩) hp lv).setCell (p := ⟨w.heap.size + 1, 3, none⟩) hp gv
  have L7 := k7 hl2
  have G7 := k7 hg2
  obtain ⟨W7, hW7⟩ : ∃ W7, W7 = (((w2.setCell ⟨w.heap.size + 1, 0, none⟩ (.string nm)).setCell ⟨w.heap.size + 1, 1, none⟩ (.int .i64 st)).setCell ⟨w.heap.size + 1, 2, none⟩ lv).setCell ⟨w.heap.size + 1, 3, none⟩ gv := ⟨_, rfl⟩
  rw [← hW7] at z0 z1 z2 z3 L7 G7 B7
  have HX7 := hd (And.intro L7 (And.intro G7 B7))
  have HZ := hd (And.intro z0 (And.intro z1 (And.intro z2 z3)))
  rw [hw2] at hW7 x0 x1 x2 x3 xf q0 q1 q2 q3
  have HW7 := hd hW7
  clear hR3 R7 z z0 z1 z2 z3 L7 G7 B7 hW7 hl2 hg2 hL0 hol hog hox hb1 hB k7 hw2 hb2
  subst hv4
  subst hv5
  subst hv6
  go_wp2
  rw [← HW7.out]
  obtain ⟨z0, z1, z2, z3⟩ := HZ.out
  exact bodyPost_ret (v := .tuple #[.agg #[.string nm, .int .i64 st, .slice A4 (apF bs gs l l.length).1.length c4, .slice A5 (apF bs gs l l.length).2.1.length c5], .int .i64 0]) (by simp [results, Tryz.results21, go_sem, z0, z1, z2, z3]) rfl ⟨_, _, rfl, HX7.out.1, HX7.out.2.1, HX7.out.2.2⟩

end Go.Proofs.YtnncmaegmlaabaaGreatDoor

namespace Go.Proofs.YtnncmaegmlaabaaGreatDoor
open Go.RowKit

def hkN : ByteArray := ⟨#[104, 111, 111, 107]⟩
def hkL : List Nat := [1065353216, 1065353216, 1065353216, 1084227584, 1069547520, 0, 1073741824]
def hkG : List (Int × Int) := [(5, 6)]
theorem hk_valid : Valid hkN 10 hkL hkG := by
  refine ⟨by decide, by decide +kernel, by decide, by decide, ?_, by decide +kernel, ?_, ?_⟩
  · intro j hj
    have : j = 0 ∨ j = 1 ∨ j = 2 ∨ j = 3 ∨ j = 4 ∨ j = 5 ∨ j = 6 := by simp [hkL] at hj; omega
    rcases this with rfl | rfl | rfl | rfl | rfl | rfl | rfl <;> decide +kernel
  · intro j hj
    have : j = 0 := by simp [hkG] at hj; omega
    subst this; decide
  · intro j hj i h1 h2
    have : j = 0 := by simp [hkG] at hj; omega
    subst this
    have : i = 5 := by simp [hkG] at h1 h2; omega
    subst this; decide +kernel

set_option maxRecDepth 100000 in
theorem hook_any (w : World) : Calls Tryz.prog 32 #[] w fun e w' => ∃ lv gv, e = .returned (.agg #[.string hkN, .int .i64 10, lv, gv]) ∧ Rd w' w'.heap.size lv hkL.length (flc hkL) ∧ Rd w' w'.heap.size gv hkG.length (spc hkG) ∧ Below w.heap.size w w' := by
  go_enter Tryz.func32, Tryz.ntmps32
  go_wp2
  obtain ⟨w1, hw1⟩ : ∃ w1, w1 = w.alloc (Obj.cells #[Value.string ⟨#[104, 111, 111, 107]⟩, Value.int .i64 10, Value.slice (some ⟨w.heap.size + 1, 0, none⟩) 7 7, Value.slice (some ⟨w.heap.size + 1 + 1, 0, none⟩) 1 1] 31) := ⟨_, rfl⟩
  have hs1 : w1.heap.size = w.heap.size + 1 := by rw [hw1]; simp
  obtain ⟨w2, hw2⟩ : ∃ w2, w2 = w1.alloc (Obj.cells #[Value.float .f32 1065353216, Value.float .f32 1065353216, Value.float .f32 1065353216, Value.float .f32 1084227584, Value.float .f32 1069547520, Value.float .f32 0, Value.float .f32 1073741824] 65) := ⟨_, rfl⟩
  have hs2 : w2.heap.size = w.heap.size + 2 := by rw [hw2]; simp; omega
  obtain ⟨w3, hw3⟩ : ∃ w3, w3 = w2.alloc (Obj.cells #[Value.int .i64 5, Value.int .i64 6] 63) := ⟨_, rfl⟩
  have hL := Rd.new w1 #[Value.float .f32 1065353216, Value.float .f32 1065353216, Value.float .f32 1065353216, Value.float .f32 1084227584, Value.float .f32 1069547520, Value.float .f32 0, Value.float .f32 1073741824] 65 7 (flc hkL) rfl (by decide)
  have hG := Rd.new w2 #[Value.int .i64 5, Value.int .i64 6] 63 1 (spc hkG) rfl (by decide)
  rw [← hw2, hs1] at hL
  rw [← hw3, hs2] at hG
  have hB23 : Below w2.heap.size w2 w3 := by rw [hw3]; exact (Below.refl _ w2).alloc (Nat.le_refl _) _
  have hL3 := (hL.below hB23 (Nat.le_refl _)).mono hB23.size
  have hB : Below w.heap.size w w3 := by rw [hw3, hw2, hw1]; exact (((Below.refl _ w).alloc (Nat.le_refl _) _).alloc (by simp) _).alloc (by simp; omega) _
  have hR := blk_new w #[Value.string ⟨#[104, 111, 111, 107]⟩, Value.int .i64 10, Value.slice (some ⟨w.heap.size + 1, 0, none⟩) 7 7, Value.slice (some ⟨w.heap.size + 1 + 1, 0, none⟩) 1 1] 31
  rw [← hw1] at hR
  have hB13 : Below w1.heap.size w1 w3 := by rw [hw3, hw2]; exact ((Below.refl _ w1).alloc (Nat.le_refl _) _).alloc (by simp) _
  have hR3 := (hB13.block w.heap.size (by omega)).trans hR
  rw [← hw1, ← hw2, ← hw3]
  have z := fun i => blk_cell hR3 i
  have z0 := z 0
  have z1 := z 1
  have z2 := z 2
  have z3 := z 3
  simp at z0 z1 z2 z3
  exact bodyPost_ret (v := .agg #[.string hkN, .int .i64 10, .slice (some ⟨w.heap.size + 1, 0, none⟩) 7 7, .slice (some ⟨w.heap.size + 1 + 1, 0, none⟩) 1 1]) (by simp [results, Tryz.results32, go_sem, z0, z1, z2, z3, hkN]) rfl ⟨_, _, rfl, hL3, hG, hB⟩

end Go.Proofs.YtnncmaegmlaabaaGreatDoor

namespace Go.Proofs.YtnncmaegmlaabaaGreatDoor
open Go.RowKit Go.Shelf

def exA : List (Int × Int) := [(0, 4), (6, 9)]
def exB : List (Int × Int) := [(2, 7)]
def exR : List Ru := [(sJump, 16, 0), (sStuck, 2, 0)]
def exN : List Ru := [(sRange, 0, 48)]
theorem exA_ok : chkSpans exA = 0 := by decide +kernel
theorem exB_ok : chkSpans exB = 0 := by decide +kernel
theorem exR_ok : chkRules exR = 0 := by decide +kernel
theorem exN_ok : chkRules exN = 0 := by decide +kernel
theorem ex_all : endAll exA exB = [0, 4, 6, 9, 2, 7] := by decide +kernel
theorem ex_sort : (([0, 4, 6, 9, 2, 7] : List Int).mergeSort fun x y => decide (x ≤ y)) = [0, 2, 4, 6, 7, 9] := by
  simp [List.mergeSort, List.MergeSort.Internal.splitInTwo]
theorem ex_cuts : cutsOf exA exB = [0, 2, 4, 6, 7, 9] := by
  unfold cutsOf
  rw [ex_all, ex_sort]
  decide +kernel
theorem ex_join : choice (fun x y => x || y) exA exB = [(0, 9)] := by
  unfold choice
  rw [ex_cuts]
  decide +kernel
theorem ex_meet : choice (fun x y => x && y) exA exB = [(2, 4), (6, 7)] := by
  unfold choice
  rw [ex_cuts]
  decide +kernel
theorem ex_minus : choice (fun x y => x && !y) exA exB = [(0, 2), (7, 9)] := by
  unfold choice
  rw [ex_cuts]
  decide +kernel
theorem ex_reasons : (apF hkL hkG exR exR.length).2.2 = [0, 0, 2, 1, 0, 0, 0] := by decide +kernel
theorem ex_gaps : (apF hkL hkG exR exR.length).2.1 = [(2, 4), (5, 6)] := by decide +kernel
theorem ex_range : (apF hkL hkG exN exN.length).2.2 = [0, 0, 0, 1, 0, 0, 0] := by decide +kernel
theorem ex_lev : (fillF hkL hkG 1 hkG.length).lev = [1065353216, 1065353216, 1065353216, 1084227584, 1069547520, 1069547520, 1073741824] := by decide +kernel
theorem ex_gap : (fillF hkL hkG 1 hkG.length).gap = [] := by decide +kernel
theorem ex_fil : (fillF hkL hkG 1 hkG.length).fil = [(5, 6)] := by decide +kernel
def exL (g : Nat) : List Nat := match g with
  | 0 => [1065353216, 1073741824, 1077936128]
  | 1 => [1065353216, 1082130432, 0]
  | _ => [1077936128, 1077936128, 0]
def exG (g : Nat) : List (Int × Int) := match g with
  | 0 => []
  | _ => [(2, 3)]
def exM (g : Nat) : ByteArray := match g with
  | 0 => ⟨#[97]⟩
  | 1 => ⟨#[98]⟩
  | _ => ⟨#[99]⟩
theorem ex_vlev : asmK (vLev (balF exL exG 3) 16 (exL 0).length (exL 0).length) (vMrk (balF exL exG 3) 16 (exL 0).length (exL 0).length) (exL 0).length = [1065353216, 1077936128, 0] := by decide +kernel
theorem ex_vgap : strF (misK (vMrk (balF exL exG 3) 16 (exL 0).length (exL 0).length) (exL 0).length (exL 0).length) (exL 0).length = [(2, 3)] := by decide +kernel
theorem ex_v0 : vCnt (balF exL exG 3) 16 0 (exL 0).length = 0 := by decide +kernel
theorem ex_v1 : vCnt (balF exL exG 3) 16 1 (exL 0).length = 0 := by decide +kernel
theorem ex_v2 : vCnt (balF exL exG 3) 16 2 (exL 0).length = 1 := by decide +kernel
theorem ex_highs : selM (wat fgt (knL hkG hkL.length) hkL 2) (itm hkG (fLvM hkL) hkL.length) = [0, 3, 6] := by decide +kernel
theorem ex_lows : selM (wat flt (knL hkG hkL.length) hkL 2) (itm hkG (fLvM hkL) hkL.length) = [0] := by decide +kernel
theorem ex_lows1 : selM (wat flt (knL hkG hkL.length) hkL 1) (itm hkG (fLvM hkL) hkL.length) = [0, 4, 6] := by decide +kernel
theorem ex_above : strF (abK 1065353216 (itm hkG (fLvM hkL) hkL.length)) hkL.length = [(3, 5), (6, 7)] := by decide +kernel
theorem ex_sum : sumR (sumF (itm hkG (fLvM hkL) hkL.length)) = .tuple #[.agg #[.int .i64 6, .int .i64 184, .float .f32 1065353216, .float .f32 1084227584], .int .i64 0] := by kernel_rfl
theorem ex_enc : (encV hkN 10 hkL hkG).length = 57 := by decide +kernel
theorem ex_enc29 : (encV hkN 10 hkL hkG)[29]? = some (.int .u8 63) := by kernel_rfl
theorem ex_enc30 : (encV hkN 10 hkL hkG)[30]? = some (.int .u8 128) := by kernel_rfl
end Go.Proofs.YtnncmaegmlaabaaGreatDoor

namespace Go.Proofs.YtnncmaegmlaabaaGreatDoor
open Go.RowKit Go.Shelf

theorem Rd.up {w w' : World} {n : Nat} {v : Value} {xs : List Value} (h : Rd w w.heap.size v n xs) (hb : Below w.heap.size w w') : Rd w' w'.heap.size v n xs := (h.below hb (Nat.le_refl _)).mono hb.size

/-- A list and no error. -/
def Gives (k : Nat) (xs : List Value) (w : World) (e : Ending) (w' : World) : Prop := ∃ v, e = .returned (.tuple #[v, .int .i64 0]) ∧ Rd w' w'.heap.size v k xs ∧ Below w.heap.size w w'
def Yes (w : World) (e : Ending) (w' : World) : Prop := e = .returned (.bool true) ∧ Below w.heap.size w w'

theorem spans_yes (l : List (Int × Int)) (s1 s2 : Value) (w : World) (h1 : Rd w w.heap.size s1 l.length (spc l)) (h2 : Rd w w.heap.size s2 l.length (spc l)) : Calls Tryz.prog 31 #[s1, s2] w (Yes w) := by
  refine (sameSpans_any s1 s2 l l w h1 h2).mono ?_
  rintro e w' ⟨rfl, hb⟩
  rw [show sameF (fun x y : Int × Int => x == y) (0, 0) l l = true from sameF_yes _ _ _ _ rfl (fun j _ => by simp)]
  exact ⟨rfl, hb⟩
theorem ints_yes (l : List Int) (s1 s2 : Value) (w : World) (h1 : Rd w w.heap.size s1 l.length (l.map (Value.int .i64))) (h2 : Rd w w.heap.size s2 l.length (l.map (Value.int .i64))) : Calls Tryz.prog 34 #[s1, s2] w (Yes w) := by
  refine (sameInts_any s1 s2 l l w h1 h2).mono ?_
  rintro e w' ⟨rfl, hb⟩
  rw [show sameF (fun x y : Int => x == y) 0 l l = true from sameF_yes _ _ _ _ rfl (fun j _ => by simp)]
  exact ⟨rfl, hb⟩
theorem lev3_same : sameF feqL 0 [1065353216, 1077936128, 0] [1065353216, 1077936128, 0] = true := by decide +kernel
theorem lev3_yes (s1 s2 : Value) (w : World) (h1 : Rd w w.heap.size s1 3 (flc [1065353216, 1077936128, 0])) (h2 : Rd w w.heap.size s2 3 (flc [1065353216, 1077936128, 0])) : Calls Tryz.prog 39 #[s1, s2] w (Yes w) := by
  refine (sameLevels_any s1 s2 [1065353216, 1077936128, 0] [1065353216, 1077936128, 0] w h1 h2).mono ?_
  rintro e w' ⟨rfl, hb⟩
  rw [lev3_same]
  exact ⟨rfl, hb⟩
theorem chosen_gives {kp : Bool → Bool → Bool} {a b l : List (Int × Int)} {w w' : World} {e : Ending} (hc : choice kp a b = l) (hn : ¬2048 < l.length) (h : Chosen kp a b w e w') : Gives l.length (spc l) w e w' := by
  unfold Chosen at h
  rw [hc, if_neg hn] at h
  obtain ⟨v, h1, h2, h3⟩ := h
  exact ⟨v, h1, rd_of_own h2, h3⟩
section
variable (sa sb : Value) (w : World) (ha : Rd w w.heap.size sa 2 (spc exA)) (hb : Rd w w.heap.size sb 1 (spc exB))
include ha hb
theorem ex_join_any : Calls Tryz.prog 28 #[sa, sb] w (Gives 1 (spc [(0, 9)]) w) := (join_any sa sb exA exB w ha hb exA_ok exB_ok).mono fun _ _ h => chosen_gives ex_join (by decide) h
theorem ex_meet_any : Calls Tryz.prog 29 #[sa, sb] w (Gives 2 (spc [(2, 4), (6, 7)]) w) := (meet_any sa sb exA exB w ha hb exA_ok exB_ok).mono fun _ _ h => chosen_gives ex_meet (by decide) h
theorem ex_minus_any : Calls Tryz.prog 30 #[sa, sb] w (Gives 2 (spc [(0, 2), (7, 9)]) w) := (minus_any sa sb exA exB w ha hb exA_ok exB_ok).mono fun _ _ h => chosen_gives ex_minus (by decide) h
end
section
variable (lv gv : Value) (w : World) (hl : Rd w w.heap.size lv 7 (flc hkL)) (hg : Rd w w.heap.size gv 1 (spc hkG))
include hl hg
theorem ex_reasons_any (rv : Value) (hr : Rd w w.heap.size rv 2 (ruc exR)) : Calls Tryz.prog 24 #[.agg #[.string hkN, .int .i64 10, lv, gv], rv] w (Gives 7 (([0, 0, 2, 1, 0, 0, 0] : List Int).map (Value.int .i64)) w) := by
  refine (reasons_ok hkN 10 lv gv rv hkL hkG exR w hl hg hr hk_valid exR_ok).mono ?_
  rintro e w' ⟨v, rfl, h1, h2⟩
  rw [ex_reasons] at h1
  exact ⟨v, rfl, rd_of_own h1, h2⟩
theorem ex_range_any (rv : Value) (hr : Rd w w.heap.size rv 1 (ruc exN)) : Calls Tryz.prog 24 #[.agg #[.string hkN, .int .i64 10, lv, gv], rv] w (Gives 7 (([0, 0, 0, 1, 0, 0, 0] : List Int).map (Value.int .i64)) w) := by
  refine (reasons_ok hkN 10 lv gv rv hkL hkG exN w hl hg hr hk_valid exN_ok).mono ?_
  rintro e w' ⟨v, rfl, h1, h2⟩
  rw [ex_range] at h1
  exact ⟨v, rfl, rd_of_own h1, h2⟩
theorem ex_clean_any (rv : Value) (hr : Rd w w.heap.size rv 2 (ruc exR)) : Calls Tryz.prog 21 #[.agg #[.string hkN, .int .i64 10, lv, gv], rv] w fun e w' => ∃ A' m c' A c, e = .returned (.tuple #[.agg #[.string hkN, .int .i64 10, .slice A' m c', .slice A 2 c], .int .i64 0]) ∧ Rd w' w'.heap.size (.slice A 2 c) 2 (spc [(2, 4), (5, 6)]) ∧ Below w.heap.size w w' := by
  refine (clean_ok hkN 10 lv gv rv hkL hkG exR w hl hg hr hk_valid exR_ok).mono ?_
  rintro e w' ⟨lv', gv', rfl, h0, h1, h2⟩
  rw [ex_gaps] at h1
  obtain ⟨A, c, rfl, -⟩ := own_form h1
  obtain ⟨A', c', rfl, -⟩ := own_form h0
  exact ⟨A', _, c', A, c, rfl, rd_of_own h1, h2⟩
theorem ex_fill_any : Calls Tryz.prog 33 #[.agg #[.string hkN, .int .i64 10, lv, gv], .int .i64 1] w fun e w' => ∃ A c A' c' sv, e = .returned (.tuple #[.agg #[.string hkN, .int .i64 10, .slice A 7 c, .slice A' 0 c'], sv, .int .i64 0]) ∧ Rd w' w'.heap.size (.slice A 7 c) 7 (flc [1065353216, 1065353216, 1065353216, 1084227584, 1069547520, 1069547520, 1073741824]) ∧ Rd w' w'.heap.size sv 1 (spc [(5, 6)]) ∧ Below w.heap.size w w' := by
  refine (fill_any hkN 10 lv gv hkL hkG 1 w hl hg hk_valid (by decide)).mono ?_
  rintro e w' ⟨lv', gv', sv, rfl, h0, h1, h2, h3⟩
  rw [ex_lev] at h0
  rw [ex_gap] at h1
  rw [ex_fil] at h2
  obtain ⟨A, c, rfl, -⟩ := own_form h0
  obtain ⟨A', c', rfl, -⟩ := own_form h1
  exact ⟨A, c, A', c', sv, rfl, rd_of_own h0, rd_of_own h2, h3⟩
theorem ex_highs_any : Calls Tryz.prog 36 #[.agg #[.string hkN, .int .i64 10, lv, gv], .int .i64 2] w (Gives 3 (([0, 3, 6] : List Int).map (Value.int .i64)) w) := by
  refine (highs_any hkN 10 lv gv hkL hkG 2 w hl hg hk_valid (by decide) (by decide)).mono ?_
  rintro e w' ⟨v, rfl, h1, h2⟩
  rw [ex_highs] at h1
  exact ⟨v, rfl, rd_of_own h1, h2⟩
theorem ex_lows_any : Calls Tryz.prog 37 #[.agg #[.string hkN, .int .i64 10, lv, gv], .int .i64 2] w (Gives 1 (([0] : List Int).map (Value.int .i64)) w) := by
  refine (lows_any hkN 10 lv gv hkL hkG 2 w hl hg hk_valid (by decide) (by decide)).mono ?_
  rintro e w' ⟨v, rfl, h1, h2⟩
  rw [ex_lows] at h1
  exact ⟨v, rfl, rd_of_own h1, h2⟩
theorem ex_lows1_any : Calls Tryz.prog 37 #[.agg #[.string hkN, .int .i64 10, lv, gv], .int .i64 1] w (Gives 3 (([0, 4, 6] : List Int).map (Value.int .i64)) w) := by
  refine (lows_any hkN 10 lv gv hkL hkG 1 w hl hg hk_valid (by decide) (by decide)).mono ?_
  rintro e w' ⟨v, rfl, h1, h2⟩
  rw [ex_lows1] at h1
  exact ⟨v, rfl, rd_of_own h1, h2⟩
theorem ex_above_any : Calls Tryz.prog 38 #[.agg #[.string hkN, .int .i64 10, lv, gv], .float .f32 1065353216] w (Gives 2 (spc [(3, 5), (6, 7)]) w) := by
  refine (callsIn_wide.1 (above_in hkN 10 1065353216 lv gv hkL hkG w hl hg hk_valid (by decide +kernel))).mono ?_
  rintro e w' ⟨v, rfl, h1, h2⟩
  rw [ex_above] at h1
  exact ⟨v, rfl, rd_of_own h1, h2⟩
theorem ex_sum_any : Calls Tryz.prog 27 #[.agg #[.string hkN, .int .i64 10, lv, gv]] w fun e w' => e = .returned (.tuple #[.agg #[.int .i64 6, .int .i64 184, .float .f32 1065353216, .float .f32 1084227584], .int .i64 0]) ∧ Below w.heap.size w w' := by
  refine (summary_any hkN 10 lv gv hkL hkG w hl hg hk_valid).mono ?_
  rintro e w' ⟨rfl, h2⟩
  rw [ex_sum]
  exact ⟨rfl, h2⟩
theorem ex_enc_any : Calls Tryz.prog 15 #[.agg #[.string hkN, .int .i64 10, lv, gv]] w fun e w' => ∃ v, e = .returned (.tuple #[v, .int .i64 0]) ∧ Rd w' w'.heap.size v 57 (encV hkN 10 hkL hkG) ∧ Below w.heap.size w w' := by
  refine (encode_any hkN 10 lv gv hkL hkG w hl hg hk_valid).mono ?_
  rintro e w' ⟨v, rfl, h1, h2⟩
  have h1 := rd_of_own h1
  rw [ex_enc] at h1
  exact ⟨v, rfl, h1, h2⟩
end

def fn3 (a b c : Value) (g : Nat) : Value := match g with
  | 0 => a
  | 1 => b
  | _ => c
theorem ex_vals (g : Nat) (hg : g < 3) : Valid (exM g) 0 (exL g) (exG g) := by
  have lv : ∀ g, g < 3 → ∀ j, j < 3 → levOK ((exL g).getD j 0) = true := by
    intro g hg j hj
    rcases (show g = 0 ∨ g = 1 ∨ g = 2 by omega) with rfl | rfl | rfl <;> rcases (show j = 0 ∨ j = 1 ∨ j = 2 by omega) with rfl | rfl | rfl <;> decide +kernel
  have h3 : (exL g).length = 3 := by rcases (show g = 0 ∨ g = 1 ∨ g = 2 by omega) with rfl | rfl | rfl <;> rfl
  refine ⟨?_, ?_, by decide, by omega, fun j hj => lv g hg j (by omega), ?_, ?_, ?_⟩
  · rcases (show g = 0 ∨ g = 1 ∨ g = 2 by omega) with rfl | rfl | rfl <;> decide
  · rcases (show g = 0 ∨ g = 1 ∨ g = 2 by omega) with rfl | rfl | rfl <;> decide +kernel
  · rcases (show g = 0 ∨ g = 1 ∨ g = 2 by omega) with rfl | rfl | rfl <;> decide +kernel
  · intro j hj
    rcases (show g = 0 ∨ g = 1 ∨ g = 2 by omega) with rfl | rfl | rfl
    · simp [exG] at hj
    · obtain rfl : j = 0 := by simp [exG] at hj; omega
      decide
    · obtain rfl : j = 0 := by simp [exG] at hj; omega
      decide
  · intro j hj i h1 h2
    rcases (show g = 0 ∨ g = 1 ∨ g = 2 by omega) with rfl | rfl | rfl
    · simp [exG] at hj
    · obtain rfl : j = 0 := by simp [exG] at hj; omega
      obtain rfl : i = 2 := by simp [exG] at h1 h2; omega
      decide +kernel
    · obtain rfl : j = 0 := by simp [exG] at hj; omega
      obtain rfl : i = 2 := by simp [exG] at h1 h2; omega
      decide +kernel
theorem ex_vote_any (a b c g : Value) (w : World) (ha : Rd w w.heap.size a 3 (flc (exL 0))) (hb : Rd w w.heap.size b 3 (flc (exL 1))) (hc : Rd w w.heap.size c 3 (flc (exL 2))) (hg : Rd w w.heap.size g 1 (spc [(2, 3)])) :
    Calls Tryz.prog 35 #[.agg #[.string ⟨#[97]⟩, .int .i64 0, a, .slice none 0 0, .string ⟨#[98]⟩, .int .i64 0, b, g, .string ⟨#[99]⟩, .int .i64 0, c, g], .int .i64 16] w fun e w' => ∃ A p A' q, e = .returned (.tuple #[.agg #[.string ⟨#[97]⟩, .int .i64 0, .slice A 3 p, .slice A' 1 q], .agg #[.int .i64 0, .int .i64 0, .int .i64 1], .int .i64 0]) ∧ Rd w' w'.heap.size (.slice A 3 p) 3 (flc [1065353216, 1077936128, 0]) ∧ Rd w' w'.heap.size (.slice A' 1 q) 1 (spc [(2, 3)]) ∧ Below w.heap.size w w' := by
  refine (vote_any exM (fun _ => 0) (fn3 a b c) (fn3 (.slice none 0 0) g g) exL exG 16 w ?_ ?_ ex_vals ?_ (fun _ _ => rfl) (by decide)).mono ?_
  · intro k hk
    rcases (show k = 0 ∨ k = 1 ∨ k = 2 by omega) with rfl | rfl | rfl
    · exact ha
    · exact hb
    · exact hc
  · intro k hk
    rcases (show k = 0 ∨ k = 1 ∨ k = 2 by omega) with rfl | rfl | rfl
    · exact Rd.nil _ _
    · exact hg
    · exact hg
  · intro k hk
    rcases (show k = 0 ∨ k = 1 ∨ k = 2 by omega) with rfl | rfl | rfl <;> rfl
  · rintro e w' ⟨lv', gv', rfl, h1, h2, h3⟩
    rw [ex_vlev] at h1
    rw [ex_vgap] at h2
    rw [ex_v0, ex_v1, ex_v2]
    obtain ⟨A, p, rfl, -⟩ := own_form h1
    obtain ⟨A', q, rfl, -⟩ := own_form h2
    exact ⟨A, p, A', q, rfl, rd_of_own h1, rd_of_own h2, h3⟩

abbrev Blk (w : World) (a : Nat) (cs : Array Value) (t : TypeId) : Prop := w.heap[a]? = some (.cells cs t (0, 0))
theorem Blk.up {w w' : World} {a : Nat} {cs : Array Value} {t : TypeId} (h : Blk w a cs t) (hb : Below w.heap.size w w') : Blk w' a cs t := (hb.block _ (blk_lt h)).trans h
theorem Blk.new (w : World) (cs : Array Value) (t : TypeId) : Blk (w.alloc (.cells cs t)) w.heap.size cs t := blk_new w cs t
theorem eq3c (w : World) : (Op.equalIn 10000 80 (.agg #[.int .i64 0, .int .i64 0, .int .i64 1]) (.agg #[.int .i64 0, .int .i64 0, .int .i64 1])).run Tryz.prog w = .ok true w := by kernel_rfl
theorem eqF1 (w : World) : (Op.equalIn 9999 65 (.float .f32 1065353216) (.float .f32 1065353216)).run Tryz.prog w = .ok true w := by kernel_rfl
theorem eqF2 (w : World) : (Op.equalIn 9999 65 (.float .f32 1084227584) (.float .f32 1084227584)).run Tryz.prog w = .ok true w := by kernel_rfl
theorem eqGSt (x y : Operand) (w : World) : (eqGuard .eql 67 x y (.agg #[.int .i64 6, .int .i64 184, .float .f32 1065353216, .float .f32 1084227584]) (.agg #[.int .i64 6, .int .i64 184, .float .f32 1065353216, .float .f32 1084227584])).run Tryz.prog w = .ok () w := by kernel_rfl
/-- The decimal numerals that Print needs. -/
def itaE (n : Int) : ByteArray := if n = 10 then ⟨#[49, 48]⟩ else if n = 16 then ⟨#[49, 54]⟩ else if n = 80 then ⟨#[56, 48]⟩ else if n = 24 then ⟨#[50, 52]⟩ else if n = 32 then ⟨#[51, 50]⟩ else ⟨#[]⟩
theorem ita_of (i : Nat) (s : List UInt8) (hi : i < 100) (hs : Lib.decDigits i = s) (he : itaE (i : Int) = ⟨s.toArray⟩) (hl : s.length ≤ 32) : ItaOf itaE (i : Int) := by
  refine ⟨by rw [he]; simpa [ByteArray.size] using hl, fun W => (Tryz.strconv_Itoa_small i hi W).mono ?_⟩
  rintro e w' ⟨rfl, rfl⟩
  rw [hs, ← he]
  exact ⟨rfl, Below.refl _ _⟩
theorem ita10 : ItaOf itaE 10 := ita_of 10 [49, 48] (by decide) (by simp [Lib.decDigits]) rfl (by decide)
theorem ita16 : ItaOf itaE 16 := ita_of 16 [49, 54] (by decide) (by simp [Lib.decDigits]) rfl (by decide)
theorem ita80 : ItaOf itaE 80 := ita_of 80 [56, 48] (by decide) (by simp [Lib.decDigits]) rfl (by decide)
theorem ita24 : ItaOf itaE 24 := ita_of 24 [50, 52] (by decide) (by simp [Lib.decDigits]) rfl (by decide)
theorem ita32 : ItaOf itaE 32 := ita_of 32 [51, 50] (by decide) (by simp [Lib.decDigits]) rfl (by decide)
abbrev exText : ByteArray := ⟨#[103, 97, 117, 103, 101, 32, 104, 111, 111, 107, 32, 49, 48, 10, 49, 54, 10, 49, 54, 10, 49, 54, 10, 56, 48, 10, 50, 52, 10, 45, 10, 51, 50, 10]⟩
theorem ex_text : (⟨(textP itaE hkN 10 (knL hkG hkL.length) hkL hkL.length).toArray⟩ : ByteArray) = exText := by kernel_rfl
theorem ex_print_any (lv gv : Value) (w : World) (hl : Rd w w.heap.size lv 7 (flc hkL)) (hg : Rd w w.heap.size gv 1 (spc hkG)) : Calls Tryz.prog 8 #[.agg #[.string hkN, .int .i64 10, lv, gv]] w fun e w' => e = .returned (.tuple #[.string exText, .int .i64 0]) ∧ Below w.heap.size w w' := by
  refine (print_any itaE hkN 10 lv gv hkL hkG w hl hg hk_valid ita10 ?_).mono ?_
  · intro j hj hk
    have : j = 0 ∨ j = 1 ∨ j = 2 ∨ j = 3 ∨ j = 4 ∨ j = 5 ∨ j = 6 := by simp [hkL] at hj; omega
    rcases this with rfl | rfl | rfl | rfl | rfl | rfl | rfl
    · rw [show s16 (hkL.getD 0 0) = 16 by decide +kernel]; exact ita16
    · rw [show s16 (hkL.getD 1 0) = 16 by decide +kernel]; exact ita16
    · rw [show s16 (hkL.getD 2 0) = 16 by decide +kernel]; exact ita16
    · rw [show s16 (hkL.getD 3 0) = 80 by decide +kernel]; exact ita80
    · rw [show s16 (hkL.getD 4 0) = 24 by decide +kernel]; exact ita24
    · exact absurd hk (by decide +kernel)
    · rw [show s16 (hkL.getD 6 0) = 32 by decide +kernel]; exact ita32
  · rintro e w' ⟨rfl, h⟩
    rw [ex_text]
    exact ⟨rfl, h⟩
end Go.Proofs.YtnncmaegmlaabaaGreatDoor
