/-
  Contract of the reference's voted: at most three levels in sixteenths, a tolerance from 0 to 2048.
-/
import Derived.Test.YtbmeadlamjppgaaGreatDoorProg
import Derived.Test.YtbmeadlamjppgaaGreatDoorD2
import Derived.BigQuiet
namespace Go.Proofs.YtbmeadlamjppgaaGreatDoor
open Go.RowKit
attribute [local go_sem] Oper.semAt_some

theorem below_dz {B : Nat} {a w : World} (h : Below B a w) (k : Nat) : Below B a (w.drewN k) := ⟨h.os, h.tape, h.output, h.size, h.block⟩

set_option maxRecDepth 1000000 in
set_option maxHeartbeats 4000000 in
theorem voted_any (sl : Value) (l : List Int) (tol : Int) (w : World) (h : Rd w w.heap.size sl l.length (l.map (Value.int .i64))) (hl : l.length ≤ 3) (hb : ∀ x ∈ l, -1024 ≤ x ∧ x ≤ 1024) (ht : 0 ≤ tol ∧ tol ≤ 2048) :
    Calls Tryz.prog 61 #[sl, .int .i64 tol] w fun e w' => e = .returned (.tuple #[.int .i64 (rvt l tol).1, .bool (rvt l tol).2]) ∧ Below w.heap.size w w' := by
  obtain ⟨A, c, rfl, hc1, hc2, hc⟩ := h
  obtain ⟨ht1, ht2⟩ := ht
  have HB := hd (Below.refl w.heap.size w)
  match l, hl, hb with
  | [], _, _ =>
    have HR := hd (show rvt [] tol = (0, false) from rfl)
    rw [show ([] : List Int).length = 0 from rfl]
    clear hc hc1 hc2
    go_enter Tryz.func61, Tryz.ntmps61
    go_wp2_with fail
    go_quiet (fail)
    go_wp2_with fail
    go_returns
    exact ⟨by rw [HR.out]; rfl, below_dz HB.out _⟩
  | [a], _, _ =>
    have HR := hd (show rvt [a] tol = (0, false) from rfl)
    rw [show [a].length = 1 from rfl]
    clear hc hc1 hc2
    go_enter Tryz.func61, Tryz.ntmps61
    go_wp2_with fail
    go_quiet (fail)
    go_wp2_with fail
    go_returns
    exact ⟨by rw [HR.out]; rfl, below_dz HB.out _⟩
  | [a, b], _, hb =>
    obtain ⟨x, off, rfl, hbb, hcell⟩ := hc (by simp)
    have c0 : w.cell? ⟨x, off, none⟩ = some (.int .i64 a) := hcell 0 (by simp)
    have c1 : w.cell? ⟨x, off + 1, none⟩ = some (.int .i64 b) := hcell 1 (by simp)
    have ha := hb a (by simp)
    have hb := hb b (by simp)
    have HR1 := hd (fun h : max (a - b) (b - a) ≤ tol => show rvt [a, b] tol = (max a b, true) from by simp only [rvt]; rw [if_pos h])
    have HR2 := hd (fun h : ¬ max (a - b) (b - a) ≤ tol => show rvt [a, b] tol = (0, false) from by simp only [rvt]; rw [if_neg h])
    rw [show [a, b].length = 2 from rfl]
    clear hcell
    obtain ⟨ha1, ha2⟩ := ha
    obtain ⟨hb1, hb2⟩ := hb
    go_enter Tryz.func61, Tryz.ntmps61
    go_wp2_with fail
    go_quiet (fail)
    all_goals
      go_wp2_with fail
    all_goals
      try (go_quiet (fail))
    all_goals
      try (go_wp2_with fail)
    all_goals
      go_returns
      refine ⟨?_, by first | exact below_dz (below_dz HB.out _) _ | exact below_dz HB.out _⟩
      first
        | (rw [HR1.out (by assumption)]; rfl)
        | (rw [HR2.out (by first | assumption | omega)]; rfl)
  | [a, b, c], _, hb =>
    obtain ⟨x, off, rfl, hbb, hcell⟩ := hc (by simp)
    have c0 : w.cell? ⟨x, off, none⟩ = some (.int .i64 a) := hcell 0 (by simp)
    have c1 : w.cell? ⟨x, off + 1, none⟩ = some (.int .i64 b) := hcell 1 (by simp)
    have c2 : w.cell? ⟨x, off + 2, none⟩ = some (.int .i64 c) := hcell 2 (by simp)
    have h0 := hb a (by simp)
    have h1 := hb b (by simp)
    have h2 := hb c (by simp)
    have HR := hd (show rvt [a, b, c] tol = (a + b + c - min (min a b) c - max (max a b) c, true) from rfl)
    rw [show [a, b, c].length = 3 from rfl]
    clear hcell
    obtain ⟨ha1, ha2⟩ := h0
    obtain ⟨hb1, hb2⟩ := h1
    obtain ⟨hc1', hc2'⟩ := h2
    go_enter Tryz.func61, Tryz.ntmps61
    go_wp2_with fail
    go_quiet (fail)
    all_goals
      try (go_wp2_with fail)
    all_goals
      go_returns
      refine ⟨?_, below_dz HB.out _⟩
      rw [HR.out]
      exact congrArg (fun z => Ending.returned (.tuple #[.int .i64 z, .bool true])) (by omega)
end Go.Proofs.YtbmeadlamjppgaaGreatDoor
