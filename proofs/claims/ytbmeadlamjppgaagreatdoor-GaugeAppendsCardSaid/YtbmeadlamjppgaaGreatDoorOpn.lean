/-
  A slice of spans that comes in, opened: what it reads as.
-/
import Derived.Test.YtbmeadlamjppgaaGreatDoorProg
import Derived.Test.YtbmeadlamjppgaaGreatDoorRow
import Derived.Test.YtbmeadlamjppgaaGreatDoorH2
import Derived.Deep.SlicePairs
namespace Go.Proofs.YtbmeadlamjppgaaGreatDoor
open Go Go.ChangeShapes Go.WideShapes Go.ChangeAt Go.RowKit Go.Joins

section
variable {H : Type} {enc : TypeId × Value → H}
set_option maxRecDepth 1000000 in
theorem open_spans {W : World} {base : Nat} {v : Value} {d : DataW H} {p : List MemPlace} (hv : Value.okWide Tryz.prog W .any base 23 v)
    (h : DataW.Trod enc Tryz.prog W 0 (fun _ => true) true 23 v d p) : ∃ l : List (Int × Int), Rd W W.heap.size v l.length (spc l) ∧ Full v := by
  obtain ⟨A, len, cap, rfl⟩ := okWide_slice Tryz.underlying23 hv
  obtain ⟨fuel, hf⟩ := h
  have hc : (Value.slice A len cap).cells.toList = [Value.slice A len cap] := by simp [Value.cells]
  rw [hc] at hf
  have ce : Tryz.prog.cellsOf 80 = 2 := by kernel_rfl
  have ci : Tryz.prog.cellsOf 3 = 1 := by kernel_rfl
  rcases Deep.open_slice_pairs Tryz.underlying23 Tryz.underlying80 ce rfl rfl ci ci hf with ⟨e, -⟩ | ⟨a, len', cap', m, n, V0, V1, D0, D1, P0, P1, e, hb, hl, hm, hmm, -, hx⟩
  · injection e with e
    rw [e]
    exact ⟨[], Rd.nil _ _, .inl rfl⟩
  · injection e with e
    injection e with e1 e2 e3
    subst e1 e2 e3
    simp only [if_true] at hmm
    subst hmm
    obtain ⟨B, hB⟩ := Deep.choose_lt (α := Int × Int) (p := fun i q => V0 i = .int .i64 q.1 ∧ V1 i = .int .i64 q.2) (n := m) (fun i hi => by
      obtain ⟨_, _, t0, t1⟩ := hx i hi
      obtain ⟨x0, h0, _⟩ := DataW.trod_int Tryz.underlying3 t0
      obtain ⟨x1, h1, _⟩ := DataW.trod_int Tryz.underlying3 t1
      exact ⟨(x0, x1), by simpa using h0, by simpa using h1⟩)
    have hlen : ((List.range len).map B).length = len := by simp
    have key : ∀ i, i < len → W.cell? (a.add (i * 2)) = some (.int .i64 (B i).1) ∧ W.cell? (a.add (i * 2 + 1)) = some (.int .i64 (B i).2) := fun i hi => by
      obtain ⟨g0, g1, _, _⟩ := hx i (by omega)
      obtain ⟨b0, b1⟩ := hB i (by omega)
      exact ⟨by rw [g0, b0], by rw [g1, b1]⟩
    refine ⟨(List.range len).map B, ⟨some a, m, by rw [hlen], by rw [hlen]; exact hl, hm, fun h0 => ?_⟩, .inr ⟨a, len, m, rfl⟩⟩
    rw [hlen] at h0
    have g0 := (key 0 h0).1
    have hlt := World.block_lt_of_cell? W _ g0
    obtain ⟨b, off, sp⟩ := a
    cases sp with
    | some z => simp [World.cell?, Addr.add] at g0; split at g0 <;> simp_all
    | none =>
      have ha : ∀ j, (⟨b, off, none⟩ : Addr).add j = ⟨b, off + j, none⟩ := fun j => by unfold Addr.add; split <;> simp_all
      refine ⟨b, off, rfl, by simpa [ha] using hlt, fun j hj => ?_⟩
      rw [spc_len, hlen] at hj
      have hk : j / 2 < len := by omega
      obtain ⟨s0, s1⟩ := spc_at ((List.range len).map B) (j / 2) (by rw [hlen]; exact hk)
      obtain ⟨c0, c1⟩ := key (j / 2) hk
      rw [ha] at c0 c1
      have hgd : ((List.range len).map B)[j / 2]'(by rw [hlen]; exact hk) = B (j / 2) := by simp
      rw [hgd] at s0 s1
      rcases Nat.mod_two_eq_zero_or_one j with h | h
      · have e : j / 2 * 2 = j := by omega
        rw [e] at s0 c0
        rw [c0, s0]
      · have e : j / 2 * 2 + 1 = j := by omega
        have e' : off + (j / 2 * 2 + 1) = off + j := by omega
        rw [e] at s1
        rw [e'] at c1
        rw [c1, s1]
end
end Go.Proofs.YtbmeadlamjppgaaGreatDoor
