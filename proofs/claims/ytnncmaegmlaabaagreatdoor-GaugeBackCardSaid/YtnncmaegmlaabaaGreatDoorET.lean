/-
  Contracts of what the statements tell of a record and an error, and an append as an operation of a region. Conditions: written at each.
-/
import Derived.Test.YtnncmaegmlaabaaGreatDoorProg
import Derived.Test.YtnncmaegmlaabaaGreatDoorMR
import Derived.Test.YtnncmaegmlaabaaGreatDoorMI
import Derived.Test.YtnncmaegmlaabaaGreatDoorMS
import Derived.Test.YtnncmaegmlaabaaGreatDoorH2
import Derived.Test.YtnncmaegmlaabaaGreatDoorT0
import Derived.Test.YtnncmaegmlaabaaGreatDoorT1
import Derived.Deep.RegionHeld3
import Derived.Deep.Cut

namespace Go.Proofs.YtnncmaegmlaabaaGreatDoor
open Go.RowKit
attribute [local go_sem] Oper.semAt_some

set_option maxRecDepth 1000000 in
set_option maxHeartbeats 4000000 in
theorem sameRec_yes (nm : ByteArray) (st : Int) (l1 g1 l2 g2 : Value) (b1 b2 : List Nat) (s1 s2 : List (Int × Int)) (w : World) (hl1 : Rd w w.heap.size l1 b1.length (flc b1)) (hg1 : Rd w w.heap.size g1 s1.length (spc s1)) (hl2 : Rd w w.heap.size l2 b2.length (flc b2)) (hg2 : Rd w w.heap.size g2 s2.length (spc s2))
    (hL : sameF feqL 0 b1 b2 = true) (hG : sameF (fun x y : Int × Int => x == y) (0, 0) s1 s2 = true) :
    Calls Tryz.prog 17 #[.agg #[.string nm, .int .i64 st, l1, g1], .agg #[.string nm, .int .i64 st, l2, g2]] w fun e w' => e = .returned (.bool true) ∧ Below w.heap.size w w' := by
  have H1 := hd hl1
  have H2 := hd hg1
  have H3 := hd hl2
  have H4 := hd hg2
  have HL := hd hL
  have HG := hd hG
  obtain ⟨A1, c1, rfl, -⟩ := hl1
  obtain ⟨A2, c2, rfl, -⟩ := hg1
  obtain ⟨A3, c3, rfl, -⟩ := hl2
  obtain ⟨A4, c4, rfl, -⟩ := hg2
  obtain ⟨W1, hW1⟩ : ∃ W1, W1 = ((w.alloc (Obj.cells #[.string nm, .int .i64 st, .slice A1 b1.length c1, .slice A2 s1.length c2] 25)).alloc (Obj.cells #[.string nm, .int .i64 st, .slice A3 b2.length c3, .slice A4 s2.length c4] 25)) := ⟨_, rfl⟩
  have hB : Below w.heap.size w W1 := by rw [hW1]; exact ((Below.refl _ w).alloc (Nat.le_refl _) _).alloc (by simp) _
  have hq : W1.heap[w.heap.size]? = some (.cells #[.string nm, .int .i64 st, .slice A1 b1.length c1, .slice A2 s1.length c2] 25 (0, 0)) := by
    rw [hW1, Below.heap_alloc _ _ _ (by simp)]; exact blk_new _ _ _
  have hr : W1.heap[w.heap.size + 1]? = some (.cells #[.string nm, .int .i64 st, .slice A3 b2.length c3, .slice A4 s2.length c4] 25 (0, 0)) := by
    have h1 := blk_new (w.alloc (Obj.cells #[.string nm, .int .i64 st, .slice A1 b1.length c1, .slice A2 s1.length c2] 25)) #[.string nm, .int .i64 st, .slice A3 b2.length c3, .slice A4 s2.length c4] 25
    simp only [World.size_alloc] at h1
    rw [hW1]; exact h1
  have HB := hd hB
  have HQ := hd hq
  have HR := hd hr
  have HR1 := hd ((H1.out.below hB (Nat.le_refl _)).mono hB.size)
  have HR2 := hd ((H2.out.below hB (Nat.le_refl _)).mono hB.size)
  have HR3 := hd ((H3.out.below hB (Nat.le_refl _)).mono hB.size)
  have HR4 := hd ((H4.out.below hB (Nat.le_refl _)).mono hB.size)
  have q2 := blk_cell hq 2
  have q3 := blk_cell hq 3
  have r2 := blk_cell hr 2
  have r3 := blk_cell hr 3
  have q0 := blk_cell hq 0
  have q1 := blk_cell hq 1
  have r0 := blk_cell hr 0
  have r1 := blk_cell hr 1
  simp at q0 q1 q2 q3 r0 r1 r2 r3
  clear hL hG hB hq hr
  go_enter Tryz.func17, Tryz.ntmps17
  go_wp2_with fail
  rw [← hW1]
  refine (sameLevels_any _ _ b1 b2 _ HR1.out HR3.out).mono ?_
  rw [HL.out]
  rintro e w1 ⟨rfl, hb⟩
  have k3 := blk_cell ((hb.block _ (blk_lt HQ.out)).trans HQ.out) 3
  have m3 := blk_cell ((hb.block _ (blk_lt HR.out)).trans HR.out) 3
  simp at k3 m3
  have HS2 := hd ((HR2.out.below hb (Nat.le_refl _)).mono hb.size)
  have HS4 := hd ((HR4.out.below hb (Nat.le_refl _)).mono hb.size)
  have HB1 := hd (HB.out.trans (hb.mono HB.out.size))
  clear hb q0 q1 q2 q3 r0 r1 r2 r3 hW1
  go_wp2_with fail
  refine (sameSpans_any _ _ s1 s2 _ HS2.out HS4.out).mono ?_
  rw [HG.out]
  rintro e w2 ⟨rfl, hb⟩
  have HB2 := hd (HB1.out.trans (hb.mono HB1.out.size))
  clear hb k3 m3
  go_wp2_with fail
  go_returns
  exact ⟨rfl, HB2.out⟩

set_option maxRecDepth 1000000 in
theorem own_rec (nm : ByteArray) (st : Int) (A A2 : Option Addr) (n c n2 c2 : Nat) (w : World) :
    Calls Tryz.prog 18 #[.agg #[.string nm, .int .i64 st, .slice A n c, .slice A2 n2 c2]] w fun e w' => e = .returned (.agg #[.string nm, .int .i64 st, .slice A n c, .slice A2 n2 c2]) ∧ Below w.heap.size w w' := by
  have HB := hd (((Below.refl w.heap.size w).alloc (Nat.le_refl _) (Obj.cells #[.string nm, .int .i64 st, .slice A n c, .slice A2 n2 c2] 31)).alloc (by simp) (Obj.cells #[.string nm, .int .i64 st, .slice A n c, .slice A2 n2 c2] 25))
  go_enter Tryz.func18, Tryz.ntmps18
  go_wp2_with fail
  go_returns
  exact ⟨rfl, HB.out⟩

end Go.Proofs.YtnncmaegmlaabaaGreatDoor

namespace Go.Proofs.YtnncmaegmlaabaaGreatDoor
open Go.RowKit
attribute [local go_sem] Oper.semAt_some

section
variable {P : Program} (w : World)
end
end Go.Proofs.YtnncmaegmlaabaaGreatDoor

