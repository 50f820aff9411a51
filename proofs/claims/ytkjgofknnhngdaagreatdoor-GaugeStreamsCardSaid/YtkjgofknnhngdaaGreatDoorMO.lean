/-
  Contracts of gauge.Reasons and gauge.Clean. Conditions: a valid record, valid rules.
  Contract of the statements' hook: the record of the document's examples. No condition.
-/
import Derived.Test.YtkjgofknnhngdaaGreatDoorProg
import Derived.Test.YtkjgofknnhngdaaGreatDoorK5

namespace Go.Proofs.YtkjgofknnhngdaaGreatDoor
open Go.RowKit

set_option maxRecDepth 1000000 in
set_option maxHeartbeats 2000000 in
theorem reasons_ok (nm : ByteArray) (st : Int) (lv gv rv : Value) (bs : List Nat) (gs : List (Int × Int)) (l : List Ru) (w : World) (hl : Rd w w.heap.size lv bs.length (flc bs)) (hg : Rd w w.heap.size gv gs.length (spc gs)) (hr : Rd w w.heap.size rv l.length (ruc l)) (V : Valid nm st bs gs) (h0 : chkRules l = 0) :
    Calls Tryz.prog 22 #[.agg #[.string nm, .int .i64 st, lv, gv], rv] w fun e w' => ∃ xv, e = .returned (.tuple #[xv, .int .i64 0]) ∧ w'.ownsRow w.heap.size 3 1 xv (apF bs gs l l.length).2.2.length ((apF bs gs l l.length).2.2.map (Value.int .i64)) ∧ Below w.heap.size w w' := by
  have HL := hd hl
  have HG := hd hg
  have HR := hd hr
  have hl2 := hl
  have hg2 := hg
  have hr2 := hr
  obtain ⟨A1, c1, rfl, -, -, -⟩ := hl2
  obtain ⟨A2, c2, rfl, -, -, -⟩ := hg2
  obtain ⟨A3, c3, rfl, -, -, -⟩ := hr2
  have HV := hd (And.intro V h0)
  clear hl hg hr V h0
  go_enter Tryz.func22, Tryz.ntmps22
  go_wp2_with fail
  have hb0 : Below w.heap.size w (w.alloc (Obj.cells #[.string nm, .int .i64 st, .slice A1 bs.length c1, .slice A2 gs.length c2] 31)) := (Below.refl _ w).alloc (Nat.le_refl _) _
  refine (apply_ok nm st _ _ _ bs gs l _ ((HL.out.below hb0 (Nat.le_refl _)).mono hb0.size) ((HG.out.below hb0 (Nat.le_refl _)).mono hb0.size) ((HR.out.below hb0 (Nat.le_refl _)).mono hb0.size) HV.out.1 HV.out.2).mono ?_
  rintro e w1 ⟨lv, gv, xv, rfl, hol, hog, hox, hb1⟩
  obtain ⟨A4, c4, hv4, -⟩ := own_form hol
  obtain ⟨A5, c5, hv5, -⟩ := own_form hog
  obtain ⟨A6, c6, hv6, -⟩ := own_form hox
  subst hv4
  subst hv5
  subst hv6
  have hB := hb0.trans (hb1.mono hb0.size)
  have HX := hd (fun o => own_base (hox.alloc o) hb0.size)
  have HB := hd (fun o => hB.alloc hB.size o)
  clear hol hog hox hb0 hb1 hB
  go_wp2
  go_returns
  exact ⟨_, rfl, HX.out _, HB.out _⟩

set_option maxRecDepth 1000000 in
set_option maxHeartbeats 2000000 in
theorem clean_ok (nm : ByteArray) (st : Int) (lv gv rv : Value) (bs : List Nat) (gs : List (Int × Int)) (l : List Ru) (w : World) (hl : Rd w w.heap.size lv bs.length (flc bs)) (hg : Rd w w.heap.size gv gs.length (spc gs)) (hr : Rd w w.heap.size rv l.length (ruc l)) (V : Valid nm st bs gs) (h0 : chkRules l = 0) :
    Calls Tryz.prog 24 #[.agg #[.string nm, .int .i64 st, lv, gv], rv] w fun e w' => ∃ lv gv, e = .returned (.tuple #[.agg #[.string nm, .int .i64 st, lv, gv], .int .i64 0]) ∧ w'.ownsRow w.heap.size 66 1 lv (apF bs gs l l.length).1.length (flc (apF bs gs l l.length).1) ∧ w'.ownsRow w.heap.size 51 2 gv (apF bs gs l l.length).2.1.length (spc (apF bs gs l l.length).2.1) ∧ Below w.heap.size w w' := by
  have HL := hd hl
  have HG := hd hg
  have HR := hd hr
  have hl2 := hl
  have hg2 := hg
  have hr2 := hr
  obtain ⟨A1, c1, rfl, -, -, -⟩ := hl2
  obtain ⟨A2, c2, rfl, -, -, -⟩ := hg2
  obtain ⟨A3, c3, rfl, -, -, -⟩ := hr2
  have HV := hd (And.intro V h0)
  clear hl hg hr V h0
  go_enter Tryz.func24, Tryz.ntmps24
  go_wp2_with fail
  obtain ⟨W0, hW0⟩ : ∃ W0, W0 = ((w.alloc (.cells #[.string nm, .int .i64 st, .slice A1 bs.length c1, .slice A2 gs.length c2] 31)).alloc (.cells #[.string ⟨#[]⟩, .int .i64 0, .slice none 0 0, .slice none 0 0] 31)) := ⟨_, rfl⟩
  have hsz : W0.heap.size = w.heap.size + 2 := by rw [hW0]; simp
  have hb0 : Below w.heap.size w W0 := by rw [hW0]; exact ((Below.refl _ w).alloc (Nat.le_refl _) _).alloc (by simp) _
  have HRB := hd (show W0.heap[w.heap.size + 1]? = some (.cells #[.string ⟨#[]⟩, .int .i64 0, .slice none 0 0, .slice none 0 0] 31 (0, 0)) by
    have h1 := blk_new (w.alloc (.cells #[.string nm, .int .i64 st, .slice A1 bs.length c1, .slice A2 gs.length c2] 31)) #[.string ⟨#[]⟩, .int .i64 0, .slice none 0 0, .slice none 0 0] 31
    simp only [World.size_alloc] at h1
    rw [hW0]; exact h1)
  rw [← hW0]
  clear hW0
  refine (apply_ok nm st _ _ _ bs gs l _ ((HL.out.below hb0 (Nat.le_refl _)).mono hb0.size) ((HG.out.below hb0 (Nat.le_refl _)).mono hb0.size) ((HR.out.below hb0 (Nat.le_refl _)).mono hb0.size) HV.out.1 HV.out.2).mono ?_
  rintro e w1 ⟨lv, gv, xv, rfl, hol, hog, hox, hb1⟩
  obtain ⟨A4, c4, hv4, -⟩ := own_form hol
  obtain ⟨A5, c5, hv5, -⟩ := own_form hog
  obtain ⟨A6, c6, hv6, -⟩ := own_form hox
  have hs1 := hb1.size
  have hL0 := blk_new w1 #[.string nm, .int .i64 st, lv, gv] 31
  obtain ⟨w2, hw2⟩ : ∃ w2, w2 = w1.alloc (.cells #[.string nm, .int .i64 st, lv, gv] 31) := ⟨_, rfl⟩
  have hb2 : Below W0.heap.size W0 w2 := by rw [hw2]; exact hb1.alloc hs1 _
  have hl2 := hol.alloc (.cells #[.string nm, .int .i64 st, lv, gv] 31)
  have hg2 := hog.alloc (.cells #[.string nm, .int .i64 st, lv, gv] 31)
  rw [← hw2] at hL0 hl2 hg2
  have hB := hb0.trans (hb2.mono hb0.size)
  have hR3 := (hb2.block _ (show w.heap.size + 1 < W0.heap.size by omega)).trans HRB.out
  have x0 := blk_cell hR3 0
  have x1 := blk_cell hR3 1
  have x2 := blk_cell hR3 2
  have x3 := blk_cell hR3 3
  have xf := fun i => blk_frozen hR3 i
  have q0 := blk_cell hL0 0
  have q1 := blk_cell hL0 1
  have q2 := blk_cell hL0 2
  have q3 := blk_cell hL0 3
  simp at x0 x1 x2 x3 q0 q1 q2 q3
  have hq : w.heap.size + 1 < W0.heap.size := by omega
  have hp : w.heap.size ≤ w.heap.size + 1 := by omega
  have k7 : ∀ {e : TypeId} {size : Nat} {v : Value} {n : Nat} {xs : List Value}, w2.ownsRow W0.heap.size e size v n xs → ((((w2.setCell ⟨w.heap.size + 1, 0, none⟩ (.string nm)).setCell ⟨w.heap.size + 1, 1, none⟩ (.int .i64 st)).setCell ⟨w.heap.size + 1, 2, none⟩ lv).setCell ⟨w.heap.size + 1, 3, none⟩ gv).ownsRow w.heap.size e size v n xs := fun ho =>
    own_base (ownsRow_setCell_below (ownsRow_setCell_below (ownsRow_setCell_below (ownsRow_setCell_below ho (a := ⟨w.heap.size + 1, 0, none⟩) hq (.string nm)) (a := ⟨w.heap.size + 1, 1, none⟩) hq (.int .i64 st)) (a := ⟨w.heap.size + 1, 2, none⟩) hq lv) (a := ⟨w.heap.size + 1, 3, none⟩) hq gv) (by omega)
  have R7 := blk_set (blk_set (blk_set (blk_set hR3 0 (.string nm)) 1 (.int .i64 st)) 2 lv) 3 gv
  have z := fun i => blk_cell R7 i
  have z0 := z 0
  have z1 := z 1
  have z2 := z 2
  have z3 := z 3
  simp at z0 z1 z2 z3
  have B7 := (((hB.setCell (p := ⟨w.heap.size + 1, 0, none⟩) hp (.string nm)).setCell (p := ⟨w.heap.size + 1, 1, none⟩) hp (.int .i64 st)).setCell (p := ⟨w.heap.size + 1, 2, none⟩) hp lv).setCell (p := ⟨w.heap.size + 1, 3, none⟩) hp gv
  have L7 := k7 hl2
  have G7 := k7 hg2
  obtain ⟨W7, hW7⟩ : ∃ W7, W7 = (((w2.setCell ⟨w.heap.size + 1, 0, none⟩ (.string nm)).setCell ⟨w.heap.size + 1, 1, none⟩ (.int .i64 st)).setCell ⟨w.heap.size + 1, 2, none⟩ lv).setCell ⟨w.heap.size + 1, 3, none⟩ gv := ⟨_, rfl⟩
  rw [← hW7] at z0 z1 z2 z3 L7 G7 B7
  have HX7 := hd (And.intro L7 (And.intro G7 B7))
  have HZ := hd (And.intro z0 (And.intro z1 (And.intro z2 z3)))
  rw [hw2] at hW7 x0 x1 x2 x3 xf q0 q1 q2 q3
  have HW7 := hd hW7
  clear hR3 R7 z z0 z1 z2 z3 L7 G7 B7 hW7 hl2 hg2 hL0 hol hog hox hb1 hB k7 hw2 hb2
  subst hv4
  subst hv5
  subst hv6
  go_wp2
  rw [← HW7.out]
  obtain ⟨z0, z1, z2, z3⟩ := HZ.out
  exact bodyPost_ret (v := .tuple #[.agg #[.string nm, .int .i64 st, .slice A4 (apF bs gs l l.length).1.length c4, .slice A5 (apF bs gs l l.length).2.1.length c5], .int .i64 0]) (by simp [results, Tryz.results24, go_sem, z0, z1, z2, z3]) rfl ⟨_, _, rfl, HX7.out.1, HX7.out.2.1, HX7.out.2.2⟩

end Go.Proofs.YtkjgofknnhngdaaGreatDoor

namespace Go.Proofs.YtkjgofknnhngdaaGreatDoor
open Go.RowKit

def hkN : ByteArray := ⟨#[104, 111, 111, 107]⟩
def hkL : List Nat := [1065353216, 1065353216, 1065353216, 1084227584, 1069547520, 0, 1073741824]
def hkG : List (Int × Int) := [(5, 6)]
theorem hk_valid : Valid hkN 10 hkL hkG := by
  refine ⟨by decide, by decide +kernel, by decide, by decide, ?_, by decide +kernel, ?_, ?_⟩
  · intro j hj
    have : j = 0 ∨ j = 1 ∨ j = 2 ∨ j = 3 ∨ j = 4 ∨ j = 5 ∨ j = 6 := by simp [hkL] at hj; omega
    rcases this with rfl | rfl | rfl | rfl | rfl | rfl | rfl <;> decide +kernel
  · intro j hj
    have : j = 0 := by simp [hkG] at hj; omega
    subst this; decide
  · intro j hj i h1 h2
    have : j = 0 := by simp [hkG] at hj; omega
    subst this
    have : i = 5 := by simp [hkG] at h1 h2; omega
    subst this; decide +kernel

set_option maxRecDepth 100000 in
theorem hook_any (w : World) : Calls Tryz.prog 23 #[] w fun e w' => ∃ lv gv, e = .returned (.agg #[.string hkN, .int .i64 10, lv, gv]) ∧ Rd w' w'.heap.size lv hkL.length (flc hkL) ∧ Rd w' w'.heap.size gv hkG.length (spc hkG) ∧ Below w.heap.size w w' := by
  go_enter Tryz.func23, Tryz.ntmps23
  go_wp2
  obtain ⟨w1, hw1⟩ : ∃ w1, w1 = w.alloc (Obj.cells #[Value.string ⟨#[104, 111, 111, 107]⟩, Value.int .i64 10, Value.slice (some ⟨w.heap.size + 1, 0, none⟩) 7 7, Value.slice (some ⟨w.heap.size + 1 + 1, 0, none⟩) 1 1] 31) := ⟨_, rfl⟩
  have hs1 : w1.heap.size = w.heap.size + 1 := by rw [hw1]; simp
  obtain ⟨w2, hw2⟩ : ∃ w2, w2 = w1.alloc (Obj.cells #[Value.float .f32 1065353216, Value.float .f32 1065353216, Value.float .f32 1065353216, Value.float .f32 1084227584, Value.float .f32 1069547520, Value.float .f32 0, Value.float .f32 1073741824] 66) := ⟨_, rfl⟩
  have hs2 : w2.heap.size = w.heap.size + 2 := by rw [hw2]; simp; omega
  obtain ⟨w3, hw3⟩ : ∃ w3, w3 = w2.alloc (Obj.cells #[Value.int .i64 5, Value.int .i64 6] 51) := ⟨_, rfl⟩
  have hL := Rd.new w1 #[Value.float .f32 1065353216, Value.float .f32 1065353216, Value.float .f32 1065353216, Value.float .f32 1084227584, Value.float .f32 1069547520, Value.float .f32 0, Value.float .f32 1073741824] 66 7 (flc hkL) rfl (by decide)
  have hG := Rd.new w2 #[Value.int .i64 5, Value.int .i64 6] 51 1 (spc hkG) rfl (by decide)
  rw [← hw2, hs1] at hL
  rw [← hw3, hs2] at hG
  have hB23 : Below w2.heap.size w2 w3 := by rw [hw3]; exact (Below.refl _ w2).alloc (Nat.le_refl _) _
  have hL3 := (hL.below hB23 (Nat.le_refl _)).mono hB23.size
  have hB : Below w.heap.size w w3 := by rw [hw3, hw2, hw1]; exact (((Below.refl _ w).alloc (Nat.le_refl _) _).alloc (by simp) _).alloc (by simp; omega) _
  have hR := blk_new w #[Value.string ⟨#[104, 111, 111, 107]⟩, Value.int .i64 10, Value.slice (some ⟨w.heap.size + 1, 0, none⟩) 7 7, Value.slice (some ⟨w.heap.size + 1 + 1, 0, none⟩) 1 1] 31
  rw [← hw1] at hR
  have hB13 : Below w1.heap.size w1 w3 := by rw [hw3, hw2]; exact ((Below.refl _ w1).alloc (Nat.le_refl _) _).alloc (by simp) _
  have hR3 := (hB13.block w.heap.size (by omega)).trans hR
  rw [← hw1, ← hw2, ← hw3]
  have z := fun i => blk_cell hR3 i
  have z0 := z 0
  have z1 := z 1
  have z2 := z 2
  have z3 := z 3
  simp at z0 z1 z2 z3
  exact bodyPost_ret (v := .agg #[.string hkN, .int .i64 10, .slice (some ⟨w.heap.size + 1, 0, none⟩) 7 7, .slice (some ⟨w.heap.size + 1 + 1, 0, none⟩) 1 1]) (by simp [results, Tryz.results23, go_sem, z0, z1, z2, z3, hkN]) rfl ⟨_, _, rfl, hL3, hG, hB⟩

end Go.Proofs.YtkjgofknnhngdaaGreatDoor
