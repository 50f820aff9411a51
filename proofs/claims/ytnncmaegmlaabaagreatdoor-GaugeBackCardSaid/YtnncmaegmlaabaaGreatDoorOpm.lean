/-
  A law that leaves what was there as it was: its row's last step. No condition of its own.
  A slice of spans that comes in, opened: what it reads as.
  Records and lists of rules that come in, opened: what they read as.
-/
import Derived.Test.YtnncmaegmlaabaaGreatDoorProg
import Derived.Test.YtnncmaegmlaabaaGreatDoorMA
import Derived.ProofKit
import Derived.LaidMore
import Derived.OpenShut
import Derived.Carry
import Derived.Stop.Joined
import Derived.Lib.SmallJoins
import Derived.Test.YtnncmaegmlaabaaGreatDoorH2
import Derived.Test.YtnncmaegmlaabaaGreatDoorME
import Derived.Deep.SlicePairs
import Derived.Deep.Strs

namespace Go.Proofs.YtnncmaegmlaabaaGreatDoor
open Go.ChangeShapes Go.WideShapes Go.ChangeAt Go.RowKit

theorem own : ownKnob Tryz.prog.godebug = none := by kernel_rfl
theorem laidOut : laidOutB Tryz.prog = true := by kernel_rfl

section
variable {H : Type} {enc : TypeId × Value → H}
/-- What was read is read again in a later world that left it alone. -/
theorem all_stay {W W' : World} (hb : Below W.heap.size W W') {sp : Nat → Bool} : ∀ (ts : List TypeId) (vs : List Value) (ds : List (DataW H)) (ps : List MemPlace),
    (∀ t ∈ ts, Tryz.prog.readableRec t = true ∧ t < Tryz.prog.types.size) → DataW.TrodAll enc Tryz.prog W 0 (fun _ => true) true ts vs ds ps → (∀ p ∈ ps, sp p.block = true) → (∀ p ∈ ps, p.block < W.heap.size) →
    DataW.TrodAll enc Tryz.prog W' 0 sp true ts vs ds ps
  | [], vs, ds, ps, _, h, _, _ => by
    obtain ⟨rfl, rfl, rfl⟩ := trodAll_nil h
    exact trodAll_mk0
  | t :: ts, vs, ds, ps, ht, h, hs, hl => by
    obtain ⟨v, vs', d, ds', p, q, rfl, rfl, rfl, h1, h2⟩ := trodAll_cons h
    obtain ⟨r1, r2⟩ := ht t (List.mem_cons_self ..)
    exact trodAll_cons_mk (WideElems.Trod_stays laidOut r1 r2 h1 (fun p hp => hb.same (hl p (List.mem_append_left _ hp))) (fun p hp => hs p (List.mem_append_left _ hp)))
      (all_stay hb ts vs' ds' q (fun t ht' => ht t (List.mem_cons_of_mem _ ht')) h2 (fun p hp => hs p (List.mem_append_right _ hp)) (fun p hp => hl p (List.mem_append_right _ hp)))

/-- The row's outcome, of a call that answers true and left alone what was there. -/
theorem law_post {f : Func} {s : ChangeSpec} {W W' : World} {args : Array Value} {ds : List (DataW H)} {before : List MemPlace} (hv : s.vars = []) (hres : f.resultTypes = #[4])
    (hs1 : (s.fn H (ds ++ [])).results = [.lit (.bool true)]) (hs2 : (s.fn H (ds ++ [])).args = ds) (hs3 : (s.fn H (ds ++ [])).vars = [])
    (ht : ∀ t ∈ f.params.toList, Tryz.prog.readableRec t = true ∧ t < Tryz.prog.types.size)
    (hW : DataW.Whole enc Tryz.prog f.params.toList s.vars false W args.toList ds [] before) (hb : Below W.heap.size W W') : s.post enc Tryz.prog f false true false false W args (.bool true) W' := by
  have hlt : ∀ p ∈ before, p.block < W.heap.size := fun p hp => hW.lt p hp
  have hW2 := hW
  obtain ⟨p, q, hA, hV, rfl, _, _⟩ := hW
  rw [hv] at hV
  obtain ⟨_, rfl⟩ := trodVars_none hV
  have hold : ∀ p' ∈ p ++ [], (fun b => decide (b < W.heap.size)) p'.block = true := fun p' hp => by simpa using hlt p' hp
  refine ⟨ds, [], p ++ [], [], p ++ [], [], hW2, ?_, ?_, ?_, hb.frame _, fun h => by cases h⟩
  · rw [hs1, hres]
    exact trodAll_mk1 (shut_bool Tryz.underlying4 true)
  · rw [hs2, List.append_nil]
    exact all_stay hb _ _ _ _ ht hA (fun p' hp => hold p' (by simpa using hp)) (fun p' hp => hlt p' (by simpa using hp))
  · rw [hs3, hv]
    rfl
end
end Go.Proofs.YtnncmaegmlaabaaGreatDoor

namespace Go.Proofs.YtnncmaegmlaabaaGreatDoor
open Go Go.ChangeShapes Go.WideShapes Go.ChangeAt Go.RowKit Go.Joins

section
variable {H : Type} {enc : TypeId × Value → H}
end
end Go.Proofs.YtnncmaegmlaabaaGreatDoor

namespace Go.Proofs.YtnncmaegmlaabaaGreatDoor
open Go Go.ChangeShapes Go.WideShapes Go.ChangeAt Go.RowKit Go.Joins

section
variable {H : Type} {enc : TypeId × Value → H}
/-- A slice of cells that read as a list, from what its places say. -/
theorem rd_of_cells {W : World} {a : Addr} {len m sz : Nat} {xs : List Value} (hm : len ≤ m) (hx : m ≤ maxLen) (hl : xs.length = len * sz) (hz : 0 < sz) (h : ∀ j, j < len * sz → ∃ v, W.cell? (a.add j) = some v ∧ xs[j]? = some v) : Rd W W.heap.size (.slice (some a) len m) len xs := by
  refine ⟨some a, m, rfl, hm, hx, fun h0 => ?_⟩
  obtain ⟨v0, g0, -⟩ := h 0 (Nat.mul_pos h0 hz)
  have hlt := World.block_lt_of_cell? W _ g0
  obtain ⟨b, off, sp⟩ := a
  cases sp with
  | some z => simp [World.cell?, Addr.add] at g0; split at g0 <;> simp_all
  | none =>
    have ha : ∀ j, (⟨b, off, none⟩ : Addr).add j = ⟨b, off + j, none⟩ := fun j => by unfold Addr.add; split <;> simp_all
    refine ⟨b, off, rfl, by simpa [ha] using hlt, fun j hj => ?_⟩
    obtain ⟨v, g1, g2⟩ := h j (by omega)
    rw [ha] at g1
    rw [g1, g2]

set_option maxRecDepth 1000000 in
theorem open_gaps {W : World} {fuel : Nat} {v : Value} {x : DataW H × List MemPlace} (hf : DataW.trod enc Tryz.prog W 0 (fun _ => true) true fuel 23 [v] = some x) : ∃ l : List (Int × Int), Rd W W.heap.size v l.length (spc l) ∧ Full v := by
  have ce : Tryz.prog.cellsOf 63 = 2 := by kernel_rfl
  have ci : Tryz.prog.cellsOf 3 = 1 := by kernel_rfl
  rcases Deep.open_slice_pairs Tryz.underlying23 Tryz.underlying63 ce rfl rfl ci ci hf with ⟨e, -⟩ | ⟨a, len, m', m, n, V0, V1, D0, D1, P0, P1, e, hb, hl, hm, hmm, -, hx⟩
  · injection e with e
    rw [e]
    exact ⟨[], Rd.nil _ _, .inl rfl⟩
  · injection e with e
    subst e
    simp only [if_true] at hmm
    subst hmm
    obtain ⟨B, hB⟩ := Deep.choose_lt (α := Int × Int) (p := fun i q => V0 i = .int .i64 q.1 ∧ V1 i = .int .i64 q.2) (n := m) (fun i hi => by
      obtain ⟨_, _, t0, t1⟩ := hx i hi
      obtain ⟨x0, h0, _⟩ := DataW.trod_int Tryz.underlying3 t0
      obtain ⟨x1, h1, _⟩ := DataW.trod_int Tryz.underlying3 t1
      exact ⟨(x0, x1), by simpa using h0, by simpa using h1⟩)
    refine ⟨(List.range len).map B, ?_, .inr ⟨a, len, m, rfl⟩⟩
    have hlen : ((List.range len).map B).length = len := by simp
    rw [hlen]
    refine rd_of_cells (sz := 2) hl hm (by rw [spc_len, hlen]; omega) (by omega) fun j hj => ?_
    have hk : j / 2 < len := by omega
    obtain ⟨s0, s1⟩ := spc_at ((List.range len).map B) (j / 2) (by rw [hlen]; exact hk)
    obtain ⟨g0, g1, _, _⟩ := hx (j / 2) (by omega)
    obtain ⟨b0, b1⟩ := hB (j / 2) (by omega)
    have hgd : ((List.range len).map B)[j / 2]'(by rw [hlen]; exact hk) = B (j / 2) := by simp
    rw [hgd] at s0 s1
    rw [b0] at g0
    rw [b1] at g1
    rcases Nat.mod_two_eq_zero_or_one j with h | h
    · have e : j / 2 * 2 = j := by omega
      rw [e] at s0 g0
      exact ⟨_, g0, s0⟩
    · have e : j / 2 * 2 + 1 = j := by omega
      rw [e] at s1 g1
      exact ⟨_, g1, s1⟩

end
end Go.Proofs.YtnncmaegmlaabaaGreatDoor
