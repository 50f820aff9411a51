/-
  Contract of gauge.Decode: what a stream is read as. Condition: the bytes are there, at most 500.
-/
import Derived.Test.YtnncmaegmlaabaaGreatDoorProg
import Derived.Test.YtnncmaegmlaabaaGreatDoorS2
namespace Go.Proofs.YtnncmaegmlaabaaGreatDoor
open Go.RowKit
attribute [local go_sem] Oper.semAt_some

/-- The parts of a stream, and what it says. -/
def dNl (s : ByteArray) : Nat := w4 s (9 + bAt s 4)
def dNg (s : ByteArray) : Nat := w4 s (13 + bAt s 4)
def dNm (s : ByteArray) : ByteArray := s.extract 5 (5 + bAt s 4)
def dSt (s : ByteArray) : Int := (w4 s (5 + bAt s 4) : Nat)
def dGs (s : ByteArray) : List (Int × Int) := dG s (17 + bAt s 4) (dNg s)
def dBs (s : ByteArray) : List Nat := dB s (17 + bAt s 4 + 8 * dNg s) (dNl s)
def decE (s : ByteArray) : Int :=
  if s.size < 5 then 29 else if (s.extract 0 4).toList == [84, 73, 68, 69] then
    (if s.size < 17 + bAt s 4 then 29 else if s.size < 17 + bAt s 4 + 8 * dNg s + 4 * dNl s then 29 else if 17 + bAt s 4 + 8 * dNg s + 4 * dNl s < s.size then 2
      else bodE (dNm s) (dSt s) s (17 + bAt s 4) (17 + bAt s 4 + 8 * dNg s) (dNg s) (dNl s)) else 1

/-- A record that is read, or none and an error. -/
def Decd (s : ByteArray) (w : World) (e : Ending) (w' : World) : Prop := Below w.heap.size w w' ∧
  ((decE s = 0 ∧ ∃ LV GV, e = .returned (.tuple #[.agg #[.string (dNm s), .int .i64 (dSt s), LV, GV], .int .i64 0]) ∧ Rd w' w'.heap.size LV (dBs s).length (flc (dBs s)) ∧ Rd w' w'.heap.size GV (dGs s).length (spc (dGs s))) ∨
   (decE s ≠ 0 ∧ e = .returned (.tuple #[.agg #[.string ⟨#[]⟩, .int .i64 0, .slice none 0 0, .slice none 0 0], .int .i64 (decE s)])))

theorem bytes_of (s : ByteArray) (W : World) (b off : Nat) (h : ∀ i, i < s.size → W.cell? ⟨b, off + i, none⟩ = some (.int .u8 (bAt s i : Int))) : Lib.Bytes W b off s := by
  intro i hi
  rw [h i hi]
  have h1 := strCells_at s i hi
  have h2 : (Lib.strCells s)[i]? = some (.int .u8 (s[i].toNat : Int)) := by
    unfold Lib.strCells
    have h' : i < s.data.toList.length := by simpa using hi
    simp [List.getElem?_map, List.getElem?_eq_getElem h']
    rfl
  exact h1.symm.trans h2

set_option maxRecDepth 1000000 in
set_option maxHeartbeats 8000000 in
theorem decode_s5 (s : ByteArray) (A : Option Addr) (c : Nat) (w : World) (hs : s.size ≤ 500) (h5 : s.size < 5) :
    Calls Tryz.prog 16 #[.slice A s.size c] w (Decd s w) := by
  have HE := hd (show decE s = 29 by unfold decE; rw [if_pos h5])
  have hc1 : ¬ (4000000 : Int) < (s.size : Int) := by omega
  have hc2 : (s.size : Int) < 5 := by omega
  clear hs h5
  obtain ⟨W0, hW0⟩ : ∃ W0, W0 = w.alloc (.cells #[.string ⟨#[]⟩, .int .i64 0, .slice none 0 0, .slice none 0 0] 31) := ⟨_, rfl⟩
  have HR := hd (show W0.heap[w.heap.size]? = some (.cells #[.string ⟨#[]⟩, .int .i64 0, .slice none 0 0, .slice none 0 0] 31 (0, 0)) by rw [hW0]; exact blk_new _ _ _)
  have HB := hd (show Below w.heap.size w W0 by rw [hW0]; exact (Below.refl _ w).alloc (Nat.le_refl _) _)
  go_enter Tryz.func16, Tryz.ntmps16
  have r0 := blk_cell HR.out 0
  have r1 := blk_cell HR.out 1
  have r2 := blk_cell HR.out 2
  have r3 := blk_cell HR.out 3
  have y0 := blk_frozen HR.out 0
  have y1 := blk_frozen HR.out 1
  have y2 := blk_frozen HR.out 2
  have y3 := blk_frozen HR.out 3
  simp at r0 r1 r2 r3
  go_wp2_with fail
  rw [← hW0]
  clear hW0
  have z0 := r0
  have z1 := r1
  have z2 := r2
  have z3 := r3
  clear r0 r1 r2 r3 y0 y1 y2 y3
  exact bodyPost_ret (v := .tuple #[.agg #[.string ⟨#[]⟩, .int .i64 0, .slice none 0 0, .slice none 0 0], .int .i64 29]) (by simp [results, Tryz.results16, go_sem, z0, z1, z2, z3]) rfl ⟨HB.out, .inr ⟨by rw [HE.out]; decide, by rw [HE.out]⟩⟩

set_option maxRecDepth 1000000 in
set_option maxHeartbeats 8000000 in
theorem decode_magic (s : ByteArray) (A : Option Addr) (c : Nat) (w : World) (h : Rd w w.heap.size (.slice A s.size c) s.size (Lib.strCells s)) (hs : s.size ≤ 500) (h5 : ¬ s.size < 5) (hm : ((s.extract 0 4).toList == [84, 73, 68, 69]) = false) :
    Calls Tryz.prog 16 #[.slice A s.size c] w (Decd s w) := by
  have HE := hd (show decE s = 1 by unfold decE; rw [if_neg h5, if_neg (by rw [hm]; decide)])
  have hc1 : ¬ (4000000 : Int) < (s.size : Int) := by omega
  have hc2 : ¬ (s.size : Int) < 5 := by omega
  obtain ⟨A', c', e', hcc, hcm, hx⟩ := h
  cases e'
  obtain ⟨b, off, rfl, hbb, hcell⟩ := hx (by omega)
  unfold maxLen at hcm
  have HCA := hd (show ∀ i, i < s.size → w.cell? ⟨b, off + i, none⟩ = some (.int .u8 (bAt s i : Int)) from fun i hi => (hcell i (by rw [Lib.strCells_length]; exact hi)).trans (strCells_at s i hi))
  clear hcell hx
  obtain ⟨W0, hW0⟩ : ∃ W0, W0 = w.alloc (.cells #[.string ⟨#[]⟩, .int .i64 0, .slice none 0 0, .slice none 0 0] 31) := ⟨_, rfl⟩
  have HR := hd (show W0.heap[w.heap.size]? = some (.cells #[.string ⟨#[]⟩, .int .i64 0, .slice none 0 0, .slice none 0 0] 31 (0, 0)) by rw [hW0]; exact blk_new _ _ _)
  have HB := hd (show Below w.heap.size w W0 by rw [hW0]; exact (Below.refl _ w).alloc (Nat.le_refl _) _)
  have HBY := hd (show Lib.Bytes W0 b off s from bytes_of s W0 b off (fun i hi => (HB.out.cell (p := ⟨b, off + i, none⟩) hbb).trans (HCA.out i hi)))
  have hcv := Lib.run_convert_window (P := Tryz.prog) W0 41 5 9 Tryz.underlying41 Tryz.underlying5 Tryz.underlying9 b off s HBY.out 0 4 c (by omega)
  rw [Nat.add_zero, Nat.zero_add, hW0] at hcv
  have hc4 : 4 ≤ c := by omega
  go_enter Tryz.func16, Tryz.ntmps16
  have r0 := blk_cell HR.out 0
  have r1 := blk_cell HR.out 1
  have r2 := blk_cell HR.out 2
  have r3 := blk_cell HR.out 3
  have y0 := blk_frozen HR.out 0
  have y1 := blk_frozen HR.out 1
  have y2 := blk_frozen HR.out 2
  have y3 := blk_frozen HR.out 3
  simp at r0 r1 r2 r3
  go_wp2_with fail
  rw [← hW0]
  clear hW0
  have z0 := r0
  have z1 := r1
  have z2 := r2
  have z3 := r3
  clear r0 r1 r2 r3 y0 y1 y2 y3
  exact bodyPost_ret (v := .tuple #[.agg #[.string ⟨#[]⟩, .int .i64 0, .slice none 0 0, .slice none 0 0], .int .i64 1]) (by simp [results, Tryz.results16, go_sem, z0, z1, z2, z3]) rfl ⟨HB.out, .inr ⟨by rw [HE.out]; decide, by rw [HE.out]⟩⟩
set_option maxRecDepth 1000000 in
set_option maxHeartbeats 8000000 in
theorem decode_torn (s : ByteArray) (A : Option Addr) (c : Nat) (w : World) (h : Rd w w.heap.size (.slice A s.size c) s.size (Lib.strCells s)) (hs : s.size ≤ 500) (h5 : ¬ s.size < 5) (hm : ((s.extract 0 4).toList == [84, 73, 68, 69]) = true) (h17 : s.size < 17 + bAt s 4) :
    Calls Tryz.prog 16 #[.slice A s.size c] w (Decd s w) := by
  have HE := hd (show decE s = 29 by unfold decE; rw [if_neg h5, if_pos hm, if_pos h17])
  have hc1 : ¬ (4000000 : Int) < (s.size : Int) := by omega
  have hc2 : ¬ (s.size : Int) < 5 := by omega
  obtain ⟨A', c', e', hcc, hcm, hx⟩ := h
  cases e'
  obtain ⟨b, off, rfl, hbb, hcell⟩ := hx (by omega)
  unfold maxLen at hcm
  have HCA := hd (show ∀ i, i < s.size → w.cell? ⟨b, off + i, none⟩ = some (.int .u8 (bAt s i : Int)) from fun i hi => (hcell i (by rw [Lib.strCells_length]; exact hi)).trans (strCells_at s i hi))
  clear hcell hx
  obtain ⟨W0, hW0⟩ : ∃ W0, W0 = w.alloc (.cells #[.string ⟨#[]⟩, .int .i64 0, .slice none 0 0, .slice none 0 0] 31) := ⟨_, rfl⟩
  have HR := hd (show W0.heap[w.heap.size]? = some (.cells #[.string ⟨#[]⟩, .int .i64 0, .slice none 0 0, .slice none 0 0] 31 (0, 0)) by rw [hW0]; exact blk_new _ _ _)
  have HB := hd (show Below w.heap.size w W0 by rw [hW0]; exact (Below.refl _ w).alloc (Nat.le_refl _) _)
  have HBY := hd (show Lib.Bytes W0 b off s from bytes_of s W0 b off (fun i hi => (HB.out.cell (p := ⟨b, off + i, none⟩) hbb).trans (HCA.out i hi)))
  have hcv := Lib.run_convert_window (P := Tryz.prog) W0 41 5 9 Tryz.underlying41 Tryz.underlying5 Tryz.underlying9 b off s HBY.out 0 4 c (by omega)
  rw [Nat.add_zero, Nat.zero_add, hW0] at hcv
  have hl4 : (w.alloc (.cells #[.string ⟨#[]⟩, .int .i64 0, .slice none 0 0, .slice none 0 0] 31)).cell? ⟨b, off + 4, none⟩ = some (.int .u8 (bAt s 4 : Int)) := by rw [← hW0]; exact (HB.out.cell (p := ⟨b, off + 4, none⟩) hbb).trans (HCA.out 4 (by omega))
  have hbn := bAt_lt s 4
  generalize bAt s 4 = n at *
  have hrn : ((s.size - 5 : Nat) : Int) < (n : Int) + 12 := by omega
  have hrn2 : (s.size : Int) - 5 < (n : Int) + 12 := by omega
  have hrn3 : s.size - 5 < n + 12 := by omega
  have hc4 : 4 ≤ c := by omega
  have hc5 : 5 ≤ c := by omega
  have hc6 : 5 ≤ s.size := by omega
  have hc7 : 4 < s.size := by omega
  clear hs h5 h17
  go_enter Tryz.func16, Tryz.ntmps16
  have r0 := blk_cell HR.out 0
  have r1 := blk_cell HR.out 1
  have r2 := blk_cell HR.out 2
  have r3 := blk_cell HR.out 3
  have y0 := blk_frozen HR.out 0
  have y1 := blk_frozen HR.out 1
  have y2 := blk_frozen HR.out 2
  have y3 := blk_frozen HR.out 3
  simp at r0 r1 r2 r3
  go_wp2_with fail
  all_goals
    rw [← hW0]
    have z0 := r0
    have z1 := r1
    have z2 := r2
    have z3 := r3
    clear r0 r1 r2 r3 y0 y1 y2 y3
    exact bodyPost_ret (v := .tuple #[.agg #[.string ⟨#[]⟩, .int .i64 0, .slice none 0 0, .slice none 0 0], .int .i64 29]) (by simp [results, Tryz.results16, go_sem, z0, z1, z2, z3]) rfl ⟨HB.out, .inr ⟨by rw [HE.out]; decide, by rw [HE.out]⟩⟩
end Go.Proofs.YtnncmaegmlaabaaGreatDoor
