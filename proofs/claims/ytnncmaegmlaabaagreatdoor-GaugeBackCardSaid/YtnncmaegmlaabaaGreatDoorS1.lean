/-
  Contracts of the words of a stream: gauge.wordAt, ref.Number4, ref.Four. Conditions: the bytes are there.
-/
import Derived.Test.YtnncmaegmlaabaaGreatDoorProg
import Derived.Test.YtnncmaegmlaabaaGreatDoorS0
import Derived.Test.YtnncmaegmlaabaaGreatDoorMA
namespace Go.Proofs.YtnncmaegmlaabaaGreatDoor
open Go.RowKit
attribute [local go_sem] Oper.semAt_some

/-- The cells of bytes of a stream from a place on. -/
def bys (s : ByteArray) (p n : Nat) : List Value := (List.range n).map fun j => Value.int .u8 (bAt s (p + j) : Int)
theorem bys_len (s : ByteArray) (p n : Nat) : (bys s p n).length = n := by simp [bys]
theorem bys_at (s : ByteArray) (p n j : Nat) (h : j < n) : (bys s p n)[j]? = some (.int .u8 (bAt s (p + j) : Int)) := by simp [bys, h]
set_option maxRecDepth 1000000 in
set_option maxHeartbeats 4000000 in
theorem word_any (s : ByteArray) (b o n c i p : Nat) (w : World) (h0 : w.cell? ⟨b, o + 4 * i, none⟩ = some (.int .u8 (bAt s p : Int))) (h1 : w.cell? ⟨b, o + 4 * i + 1, none⟩ = some (.int .u8 (bAt s (p + 1) : Int))) (h2 : w.cell? ⟨b, o + 4 * i + 2, none⟩ = some (.int .u8 (bAt s (p + 2) : Int))) (h3 : w.cell? ⟨b, o + 4 * i + 3, none⟩ = some (.int .u8 (bAt s (p + 3) : Int)))
    (hn : 4 * i + 4 ≤ n) (hnc : n ≤ c) (hcm : c ≤ maxLen) :
    Calls Tryz.prog 69 #[.slice (some ⟨b, o, none⟩) n c, .int .i64 (i : Int)] w fun e w' => e = .returned (.int .u32 (w4 s p : Int)) ∧ ∃ q, w' = w.drewN q := by
  have b0 := bAt_lt s p
  have b1 := bAt_lt s (p + 1)
  have b2 := bAt_lt s (p + 2)
  have b3 := bAt_lt s (p + 3)
  have hor := or_w4 (bAt s p) (bAt s (p + 1)) (bAt s (p + 2)) (bAt s (p + 3)) b0 b1 b2 b3
  unfold maxLen at hcm
  go_enter Tryz.func69, Tryz.ntmps69
  go_wp2
  have h4 : 4 * (i + 1) - 4 * i = 4 := by omega
  rw [h4]
  go_quiet (fail)
  go_wp2
  go_returns
  refine ⟨?_, nq, rfl⟩
  have hw : ((w4 s p : Nat) : Int) = (bAt s p : Int) * 16777216 + (bAt s (p + 1) : Int) * 65536 + (bAt s (p + 2) : Int) * 256 + (bAt s (p + 3) : Int) := by unfold w4; omega
  rw [hw]
  rfl

end Go.Proofs.YtnncmaegmlaabaaGreatDoor
