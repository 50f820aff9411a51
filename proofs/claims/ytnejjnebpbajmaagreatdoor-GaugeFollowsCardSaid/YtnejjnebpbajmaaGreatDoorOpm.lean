/-
  A slice of spans that comes in, opened: what it reads as.
  Records and lists of rules that come in, opened: what they read as.
-/
import Derived.Test.YtnejjnebpbajmaaGreatDoorProg
import Derived.Test.YtnejjnebpbajmaaGreatDoorRow
import Derived.Test.YtnejjnebpbajmaaGreatDoorH2
import Derived.Test.YtnejjnebpbajmaaGreatDoorME
import Derived.Deep.SlicePairs
import Derived.Deep.Strs

namespace Go.Proofs.YtnejjnebpbajmaaGreatDoor
open Go Go.ChangeShapes Go.WideShapes Go.ChangeAt Go.RowKit Go.Joins

section
variable {H : Type} {enc : TypeId × Value → H}
end
end Go.Proofs.YtnejjnebpbajmaaGreatDoor

namespace Go.Proofs.YtnejjnebpbajmaaGreatDoor
open Go Go.ChangeShapes Go.WideShapes Go.ChangeAt Go.RowKit Go.Joins

section
variable {H : Type} {enc : TypeId × Value → H}
set_option maxRecDepth 1000000 in
theorem trod_f32 {w : World} {base : Nat} {spare : Nat → Bool} {held : Bool} {t : TypeId} {fuel : Nat} {cs : List Value} {x : DataW H × List MemPlace} (ht : Tryz.prog.underlying t = some (.float .f32)) (h : DataW.trod enc Tryz.prog w base spare held fuel t cs = some x) : ∃ b, cs = [.float .f32 b] := by
  cases fuel with
  | zero => simp [DataW.trod] at h
  | succ n =>
    unfold DataW.trod at h
    simp only [ht] at h
    split at h <;> simp_all

/-- A slice of cells that read as a list, from what its places say. -/
theorem rd_of_cells {W : World} {a : Addr} {len m sz : Nat} {xs : List Value} (hm : len ≤ m) (hx : m ≤ maxLen) (hl : xs.length = len * sz) (hz : 0 < sz) (h : ∀ j, j < len * sz → ∃ v, W.cell? (a.add j) = some v ∧ xs[j]? = some v) : Rd W W.heap.size (.slice (some a) len m) len xs := by
  refine ⟨some a, m, rfl, hm, hx, fun h0 => ?_⟩
  obtain ⟨v0, g0, -⟩ := h 0 (Nat.mul_pos h0 hz)
  have hlt := World.block_lt_of_cell? W _ g0
  obtain ⟨b, off, sp⟩ := a
  cases sp with
  | some z => simp [World.cell?, Addr.add] at g0; split at g0 <;> simp_all
  | none =>
    have ha : ∀ j, (⟨b, off, none⟩ : Addr).add j = ⟨b, off + j, none⟩ := fun j => by unfold Addr.add; split <;> simp_all
    refine ⟨b, off, rfl, by simpa [ha] using hlt, fun j hj => ?_⟩
    obtain ⟨v, g1, g2⟩ := h j (by omega)
    rw [ha] at g1
    rw [g1, g2]

set_option maxRecDepth 1000000 in
theorem open_levels {W : World} {fuel : Nat} {v : Value} {x : DataW H × List MemPlace} (hf : DataW.trod enc Tryz.prog W 0 (fun _ => true) true fuel 22 [v] = some x) : ∃ l : List Nat, Rd W W.heap.size v l.length (flc l) ∧ Full v := by
  rcases Deep.open_slice1 Tryz.underlying22 (by kernel_rfl) hf with ⟨e, -⟩ | ⟨a, len, cap, m, n, V, D, Pl, e, hb, hl, hm, hmm, -, hx⟩
  · injection e with e
    rw [e]
    exact ⟨[], Rd.nil _ _, .inl rfl⟩
  · injection e with e
    subst e
    simp only [if_true] at hmm
    subst hmm
    obtain ⟨B, hB⟩ := Deep.choose_lt (α := Nat) (p := fun i q => V i = .float .f32 q) (n := m) (fun i hi => by
      obtain ⟨b, h0⟩ := trod_f32 Tryz.underlying38 (hx i hi).2
      exact ⟨b, by simpa using h0⟩)
    refine ⟨(List.range len).map B, ?_, .inr ⟨a, len, m, rfl⟩⟩
    have hlen : ((List.range len).map B).length = len := by simp
    rw [hlen]
    refine rd_of_cells (sz := 1) hl hm (by simp [flc]) (by omega) fun j hj => ?_
    refine ⟨_, (hx j (by omega)).1, ?_⟩
    rw [hB j (by omega)]
    simp [flc, show j < len by omega]

set_option maxRecDepth 1000000 in
theorem open_gaps {W : World} {fuel : Nat} {v : Value} {x : DataW H × List MemPlace} (hf : DataW.trod enc Tryz.prog W 0 (fun _ => true) true fuel 23 [v] = some x) : ∃ l : List (Int × Int), Rd W W.heap.size v l.length (spc l) ∧ Full v := by
  have ce : Tryz.prog.cellsOf 40 = 2 := by kernel_rfl
  have ci : Tryz.prog.cellsOf 3 = 1 := by kernel_rfl
  rcases Deep.open_slice_pairs Tryz.underlying23 Tryz.underlying40 ce rfl rfl ci ci hf with ⟨e, -⟩ | ⟨a, len, m', m, n, V0, V1, D0, D1, P0, P1, e, hb, hl, hm, hmm, -, hx⟩
  · injection e with e
    rw [e]
    exact ⟨[], Rd.nil _ _, .inl rfl⟩
  · injection e with e
    subst e
    simp only [if_true] at hmm
    subst hmm
    obtain ⟨B, hB⟩ := Deep.choose_lt (α := Int × Int) (p := fun i q => V0 i = .int .i64 q.1 ∧ V1 i = .int .i64 q.2) (n := m) (fun i hi => by
      obtain ⟨_, _, t0, t1⟩ := hx i hi
      obtain ⟨x0, h0, _⟩ := DataW.trod_int Tryz.underlying3 t0
      obtain ⟨x1, h1, _⟩ := DataW.trod_int Tryz.underlying3 t1
      exact ⟨(x0, x1), by simpa using h0, by simpa using h1⟩)
    refine ⟨(List.range len).map B, ?_, .inr ⟨a, len, m, rfl⟩⟩
    have hlen : ((List.range len).map B).length = len := by simp
    rw [hlen]
    refine rd_of_cells (sz := 2) hl hm (by rw [spc_len, hlen]; omega) (by omega) fun j hj => ?_
    have hk : j / 2 < len := by omega
    obtain ⟨s0, s1⟩ := spc_at ((List.range len).map B) (j / 2) (by rw [hlen]; exact hk)
    obtain ⟨g0, g1, _, _⟩ := hx (j / 2) (by omega)
    obtain ⟨b0, b1⟩ := hB (j / 2) (by omega)
    have hgd : ((List.range len).map B)[j / 2]'(by rw [hlen]; exact hk) = B (j / 2) := by simp
    rw [hgd] at s0 s1
    rw [b0] at g0
    rw [b1] at g1
    rcases Nat.mod_two_eq_zero_or_one j with h | h
    · have e : j / 2 * 2 = j := by omega
      rw [e] at s0 g0
      exact ⟨_, g0, s0⟩
    · have e : j / 2 * 2 + 1 = j := by omega
      rw [e] at s1 g1
      exact ⟨_, g1, s1⟩

end
end Go.Proofs.YtnejjnebpbajmaaGreatDoor
