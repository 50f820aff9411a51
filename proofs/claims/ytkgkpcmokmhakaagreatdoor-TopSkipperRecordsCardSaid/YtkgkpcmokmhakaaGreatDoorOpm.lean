/-
  Contracts of the statements' Has, CheckSpan, CheckSpans, ShortSpans and spans. Conditions: at most 100000 spans for spans.
  Contracts of the statements' CheckSpans (every list) and spans (at most 100000).
  A slice of spans that comes in, opened: what it reads as.
  Records and lists of rules that come in, opened: what they read as.
-/
import Derived.Test.YtkgkpcmokmhakaaGreatDoorProg
import Derived.Test.YtkgkpcmokmhakaaGreatDoorMI
import Derived.Laws.AppendOwnNone
import Derived.Test.YtkgkpcmokmhakaaGreatDoorMB
import Derived.Test.YtkgkpcmokmhakaaGreatDoorME
import Derived.Deep.SlicePairs
import Derived.Deep.Strs

namespace Go.Proofs.YtkgkpcmokmhakaaGreatDoor
open Go.RowKit

set_option maxRecDepth 1000000 in
set_option maxHeartbeats 2000000 in
theorem has_any (sl : Value) (l : List (Int × Int)) (t : Int) (w : World) (h : Rd w w.heap.size sl l.length (spc l)) :
    Calls Tryz.prog 26 #[sl, .int .i64 t] w fun e w' => e = .returned (.bool (hasL l t)) ∧ w = w' := by
  obtain ⟨A, c, rfl, hc1, hc2, hc⟩ := h
  unfold maxLen at hc2
  have HC := hd hc
  clear hc
  go_enter Tryz.func26, Tryz.ntmps26
  go_wp2
  go_loop [5] (fun i => ∃ k : Nat, k ≤ l.length ∧ i = .int .i64 k ∧ Hid (∀ s ∈ l.take k, ¬ (s.1 ≤ t ∧ t < s.2))) (fun i => l.length - (intOf i).toNat)
  case atStart => exact ⟨0, Nat.zero_le _, rfl, hd (fun s hs => by simp at hs)⟩
  case round =>
    obtain ⟨k, hk, rfl, HZ⟩ := hrel
    by_cases hlt : k < l.length
    · obtain ⟨b, off, rfl, hbb, hcell⟩ := HC.out (by omega)
      obtain ⟨g1, g2⟩ := spc_at l k hlt
      have hs0 : w.cell? ⟨b, off + k * 2, none⟩ = some (.int .i64 (l[k]).1) := (hcell (k * 2) (by rw [spc_len]; omega)).trans g1
      have hs1 : w.cell? ⟨b, off + k * 2 + 1, none⟩ = some (.int .i64 (l[k]).2) := (hcell (k * 2 + 1) (by rw [spc_len]; omega)).trans g2
      have HL := hd (List.take_succ_eq_append_getElem hlt)
      have HM := hd (List.getElem_mem hlt)
      clear hcell g1 g2
      generalize hf : l[k] = f at hs0 hs1
      have HF := hd hf
      clear hf
      have hnext : ¬ (f.1 ≤ t ∧ t < f.2) → Hid (∀ s ∈ l.take (k + 1), ¬ (s.1 ≤ t ∧ t < s.2)) := fun h s hs => by
        rw [HL.out, HF.out] at hs
        rcases List.mem_append.1 hs with hs | hs
        · exact HZ.out s hs
        · rw [List.mem_singleton] at hs; subst hs; exact h
      by_cases h1 : f.1 ≤ t
      · by_cases h2 : t < f.2
        · have HT := hd (show hasL l t = true from hasL_true.2 ⟨f, by rw [← HF.out]; exact HM.out, h1, h2⟩)
          clear hnext
          go_wp2
          go_ret
          exact ⟨by rw [HT.out]; rfl, rfl⟩
        · have HN := hnext (fun h => h2 h.2)
          clear hnext
          go_wp2
          go_round
          case rel => exact ⟨k + 1, by omega, by go_num, HN⟩
          case measure => simp [intOf]; omega
      · have HN := hnext (fun h => h1 h.1)
        clear hnext
        go_wp2
        go_round
        case rel => exact ⟨k + 1, by omega, by go_num, HN⟩
        case measure => simp [intOf]; omega
    · have hke : k = l.length := by omega
      have HT := hd (show hasL l t = false from hasL_false.2 (by have := HZ.out; rwa [hke, List.take_length] at this))
      clear hke
      go_wp2
      go_ret
      exact ⟨by rw [HT.out]; rfl, rfl⟩

theorem refChkSpan_any (f t : Int) (w : World) : Calls Tryz.prog 58 #[.agg #[.int .i64 f, .int .i64 t]] w fun e w' => e = .returned (.int .i64 (chkSpan f t)) ∧ Below w.heap.size w w' := by
  by_cases h1 : 0 ≤ f
  · by_cases h2 : f < t
    · by_cases h3 : t ≤ 100000
      · have E := hd (show chkSpan f t = 0 by simp [chkSpan, h1, h2, h3])
        go_enter Tryz.func58, Tryz.ntmps58
        go_wp2
        go_returns
        exact ⟨(by rw [E.out]; first | done | rfl), by go_grown⟩
      · have E := hd (show chkSpan f t = 14 by simp [chkSpan, h3])
        go_enter Tryz.func58, Tryz.ntmps58
        go_wp2
        go_returns
        exact ⟨(by rw [E.out]; first | done | rfl), by go_grown⟩
    · have E := hd (show chkSpan f t = 14 by simp [chkSpan, h2])
      go_enter Tryz.func58, Tryz.ntmps58
      go_wp2
      go_returns
      exact ⟨(by rw [E.out]; first | done | rfl), by go_grown⟩
  · have E := hd (show chkSpan f t = 14 by simp [chkSpan, h1])
    go_enter Tryz.func58, Tryz.ntmps58
    go_wp2
    go_returns
    exact ⟨(by rw [E.out]; first | done | rfl), by go_grown⟩

theorem shortSpans_any (A : Option Addr) (n c : Nat) (k : Int) (w : World) :
    Calls Tryz.prog 20 #[.slice A n c, .int .i64 k] w fun e w' => e = .returned (.bool (decide ((n : Int) ≤ k) || decide (n = 2049))) ∧ w = w' := by
  by_cases h1 : (n : Int) ≤ k
  · have E := hd (show (decide ((n : Int) ≤ k) || decide (n = 2049)) = true by simp [h1])
    go_enter Tryz.func20, Tryz.ntmps20
    go_wp2
    go_ret
    exact ⟨by rw [E.out]; rfl, rfl⟩
  · by_cases h2 : n = 2049
    · have E := hd (show (decide ((n : Int) ≤ k) || decide (n = 2049)) = true by simp [h2])
      have h2' : ((n : Int) == 2049) = true := by rw [beq_iff_eq]; omega
      clear h2
      go_enter Tryz.func20, Tryz.ntmps20
      go_wp2
      go_ret
      exact ⟨by rw [E.out]; rfl, rfl⟩
    · have E := hd (show (decide ((n : Int) ≤ k) || decide (n = 2049)) = false by simp [h1, h2])
      have h2' : ((n : Int) == 2049) = false := by rw [beq_eq_false_iff_ne]; omega
      clear h2
      go_enter Tryz.func20, Tryz.ntmps20
      go_wp2
      go_ret
      exact ⟨by rw [E.out]; rfl, rfl⟩
end Go.Proofs.YtkgkpcmokmhakaaGreatDoor

namespace Go.Proofs.YtkgkpcmokmhakaaGreatDoor
open Go.RowKit

set_option maxRecDepth 1000000 in
set_option maxHeartbeats 4000000 in
theorem refChkSpans_any (sl : Value) (l : List (Int × Int)) (w : World) (h : Rd w w.heap.size sl l.length (spc l)) :
    Calls Tryz.prog 25 #[sl] w fun e w' => e = .returned (.int .i64 (chkSpans l)) ∧ Below w.heap.size w w' := by
  obtain ⟨A, c, rfl, hc1, hc2, hc⟩ := h
  unfold maxLen at hc2
  have HC := hd hc
  clear hc
  by_cases hmany : 2048 < l.length
  · have hm' : (2048 : Int) < (l.length : Int) := by omega
    have E := hd (show chkSpans l = 5 by rw [chkSpans, if_pos hmany])
    go_enter Tryz.func25, Tryz.ntmps25
    go_wp2
    go_ret
    exact ⟨by rw [E.out]; rfl, Below.refl _ _⟩
  · have hm' : ¬ (2048 : Int) < (l.length : Int) := by omega
    have E := hd (show chkSpans l = chkFrom (-1) l by rw [chkSpans, if_neg hmany])
    go_enter Tryz.func25, Tryz.ntmps25
    go_wp2
    go_loopw [3] (fun i wr => ∃ (k : Nat) (m : Int), k ≤ l.length ∧ i = .int .i64 k ∧ Hid (chkFrom (-1) l = chkFrom m (l.drop k) ∧ (k = 0 → m = -1) ∧ (0 < k → m = (l.getD (k - 1) (0, 0)).2)) ∧ Below w.heap.size w wr) (fun i _ => l.length - (intOf i).toNat)
    case atStart => exact ⟨0, -1, Nat.zero_le _, rfl, hd ⟨rfl, fun _ => rfl, fun h => absurd h (by omega)⟩, Below.refl _ _⟩
    case round =>
      obtain ⟨k, m, hk, rfl, HZ, hb⟩ := hrel
      by_cases hlt : k < l.length
      · obtain ⟨b, off, rfl, hbb, hcell⟩ := HC.out (by omega)
        obtain ⟨g1, g2⟩ := spc_at l k hlt
        have hs0 : wr.cell? ⟨b, off + k * 2, none⟩ = some (.int .i64 (l[k]).1) := (hb.cell (p := ⟨b, _, none⟩) hbb).trans ((hcell (k * 2) (by rw [spc_len]; omega)).trans g1)
        have hs1 : wr.cell? ⟨b, off + k * 2 + 1, none⟩ = some (.int .i64 (l[k]).2) := (hb.cell (p := ⟨b, _, none⟩) hbb).trans ((hcell (k * 2 + 1) (by rw [spc_len]; omega)).trans g2)
        have hp1 : 0 < k → wr.cell? ⟨b, off + (k - 1) * 2 + 1, none⟩ = some (.int .i64 m) := fun h0 => by
          rw [HZ.out.2.2 h0]
          exact (hb.cell (p := ⟨b, _, none⟩) hbb).trans ((hcell ((k - 1) * 2 + 1) (by rw [spc_len]; omega)).trans (spc_getD l (k - 1) (by omega)).2)
        have hL : l.drop k = l[k] :: l.drop (k + 1) := List.drop_eq_getElem_cons hlt
        have hG : (l.getD (k + 1 - 1) (0, 0)).2 = (l[k]).2 := by simp [hlt]
        generalize hf : (l[k]).1 = f at hs0
        generalize ht : (l[k]).2 = t at hs1 hG
        have hstep : chkFrom m (l.drop k) = if chkSpan f t ≠ 0 then chkSpan f t else if m < f then chkFrom t (l.drop (k + 1)) else 11 := by rw [hL, chkFrom, hf, ht]
        have HSt := hd hstep
        have HG := hd hG
        have hfs : chkSpan f t = 0 ∨ chkSpan f t = 14 := by unfold chkSpan; split <;> simp
        have hf0 : chkSpan f t = 0 → 0 ≤ f := by unfold chkSpan; split <;> intro h <;> omega
        have hbs : b < wr.heap.size := by have := hb.size; omega
        have Hs0 := hd hs0
        have Hp1 := hd hp1
        clear hcell g1 g2 hL hf ht hstep hG hp1
        by_cases hcs : chkSpan f t = 0
        · have hf0' := hf0 hcs
          have HCS := hd hcs
          have HCk := hd (fun W : World => show Calls Tryz.prog 58 #[.agg #[.int .i64 f, .int .i64 t]] W fun e w' => e = .returned (.int .i64 0) ∧ Below W.heap.size W w' from by
            have := refChkSpan_any f t W
            rwa [hcs] at this)
          clear hcs hfs hf0
          go_wp2_with fail
          refine (HCk.out _).mono ?_
          rintro e w2 ⟨rfl, hb2⟩
          have hs0' : w2.cell? ⟨b, off + k * 2, none⟩ = some (.int .i64 f) := (hb2.cell (p := ⟨b, _, none⟩) hbs).trans Hs0.out
          have HB2 := hd (hb.trans (hb2.mono hb.size))
          by_cases hk0 : k = 0
          · have hd0 : decide (0 < k) = false := by simp; omega
            have HN := hd (show chkFrom (-1) l = chkFrom t (l.drop (k + 1)) by
              rw [HZ.out.1, HSt.out, if_neg (by rw [HCS.out]; simp), if_pos (by rw [HZ.out.2.1 hk0]; omega)])
            clear hs0 hs1 hk0 hb2
            go_wp2_with fail
            go_quiet (fail)
            go_wp2
            go_roundw
            case rel => exact ⟨k + 1, t, by omega, by go_num, hd ⟨HN.out, fun h => absurd h (by omega), fun _ => HG.out.symm⟩, bel_dn HB2.out⟩
            case measure => simp [intOf]; omega
          · have hd0 : decide (0 < k) = true := by simp; omega
            have hp' : w2.cell? ⟨b, off + (k - 1) * 2 + 1, none⟩ = some (.int .i64 m) := (hb2.cell (p := ⟨b, _, none⟩) hbs).trans (Hp1.out (by omega))
            have hk1 : 1 ≤ k := by omega
            by_cases hlt2 : m < f
            · have HN := hd (show chkFrom (-1) l = chkFrom t (l.drop (k + 1)) by
                rw [HZ.out.1, HSt.out, if_neg (by rw [HCS.out]; simp), if_pos hlt2])
              clear hs0 hs1 hk0 hb2
              go_wp2_with fail
              go_quiet (fail)
              go_wp2
              go_roundw
              case rel => exact ⟨k + 1, t, by omega, by go_num, hd ⟨HN.out, fun h => absurd h (by omega), fun _ => HG.out.symm⟩, bel_dn HB2.out⟩
              case measure => simp [intOf]; omega
            · have HN := hd (show chkSpans l = 11 by
                rw [E.out, HZ.out.1, HSt.out, if_neg (by rw [HCS.out]; simp), if_neg hlt2])
              clear hs0 hs1 hk0 hb2
              go_wp2_with fail
              go_quiet (fail)
              go_wp2
              go_ret
              exact ⟨by rw [HN.out]; rfl, bel_dn HB2.out⟩
        · have h14 : chkSpan f t = 14 := by rcases hfs with h | h; exact absurd h hcs; exact h
          have HCk := hd (fun W : World => show Calls Tryz.prog 58 #[.agg #[.int .i64 f, .int .i64 t]] W fun e w' => e = .returned (.int .i64 14) ∧ Below W.heap.size W w' from by
            have := refChkSpan_any f t W
            rwa [h14] at this)
          have HN := hd (show chkSpans l = 14 by rw [E.out, HZ.out.1, HSt.out, h14, if_pos (by decide)])
          clear hcs hfs hf0 h14
          go_wp2_with fail
          refine (HCk.out _).mono ?_
          rintro e w2 ⟨rfl, hb2⟩
          have HB2 := hd (hb.trans (hb2.mono hb.size))
          clear hb2
          go_wp2
          go_ret
          exact ⟨by rw [HN.out]; rfl, HB2.out⟩
      · have hke : k = l.length := by omega
        have HN := hd (show chkSpans l = 0 by rw [E.out, HZ.out.1, hke, List.drop_length]; rfl)
        clear hke
        go_wp2
        go_ret
        exact ⟨by rw [HN.out]; rfl, hb⟩

/-- A slice value is nil, or it leads somewhere. -/
def Full (sl : Value) : Prop := sl = .slice none 0 0 ∨ ∃ ad n c, sl = .slice (some ad) n c
theorem full_own {w : World} {B : Nat} {e : TypeId} {size : Nat} {v : Value} {n : Nat} {xs : List Value} (h : w.ownsRow B e size v n xs) : Full v := by
  rcases h with ⟨_, ⟨rfl, _⟩ | ⟨g, cap, cur, rfl, _⟩⟩
  · exact .inl rfl
  · exact .inr ⟨_, _, _, rfl⟩

end Go.Proofs.YtkgkpcmokmhakaaGreatDoor

namespace Go.Proofs.YtkgkpcmokmhakaaGreatDoor
open Go Go.ChangeShapes Go.WideShapes Go.ChangeAt Go.RowKit Go.Joins

section
variable {H : Type} {enc : TypeId × Value → H}
end
end Go.Proofs.YtkgkpcmokmhakaaGreatDoor

namespace Go.Proofs.YtkgkpcmokmhakaaGreatDoor
open Go Go.ChangeShapes Go.WideShapes Go.ChangeAt Go.RowKit Go.Joins

section
variable {H : Type} {enc : TypeId × Value → H}
/-- A slice of cells that read as a list, from what its places say. -/
theorem rd_of_cells {W : World} {a : Addr} {len m sz : Nat} {xs : List Value} (hm : len ≤ m) (hx : m ≤ maxLen) (hl : xs.length = len * sz) (hz : 0 < sz) (h : ∀ j, j < len * sz → ∃ v, W.cell? (a.add j) = some v ∧ xs[j]? = some v) : Rd W W.heap.size (.slice (some a) len m) len xs := by
  refine ⟨some a, m, rfl, hm, hx, fun h0 => ?_⟩
  obtain ⟨v0, g0, -⟩ := h 0 (Nat.mul_pos h0 hz)
  have hlt := World.block_lt_of_cell? W _ g0
  obtain ⟨b, off, sp⟩ := a
  cases sp with
  | some z => simp [World.cell?, Addr.add] at g0; split at g0 <;> simp_all
  | none =>
    have ha : ∀ j, (⟨b, off, none⟩ : Addr).add j = ⟨b, off + j, none⟩ := fun j => by unfold Addr.add; split <;> simp_all
    refine ⟨b, off, rfl, by simpa [ha] using hlt, fun j hj => ?_⟩
    obtain ⟨v, g1, g2⟩ := h j (by omega)
    rw [ha] at g1
    rw [g1, g2]

set_option maxRecDepth 1000000 in
theorem open_gaps {W : World} {fuel : Nat} {v : Value} {x : DataW H × List MemPlace} (hf : DataW.trod enc Tryz.prog W 0 (fun _ => true) true fuel 23 [v] = some x) : ∃ l : List (Int × Int), Rd W W.heap.size v l.length (spc l) ∧ Full v := by
  have ce : Tryz.prog.cellsOf 50 = 2 := by kernel_rfl
  have ci : Tryz.prog.cellsOf 3 = 1 := by kernel_rfl
  rcases Deep.open_slice_pairs Tryz.underlying23 Tryz.underlying50 ce rfl rfl ci ci hf with ⟨e, -⟩ | ⟨a, len, m', m, n, V0, V1, D0, D1, P0, P1, e, hb, hl, hm, hmm, -, hx⟩
  · injection e with e
    rw [e]
    exact ⟨[], Rd.nil _ _, .inl rfl⟩
  · injection e with e
    subst e
    simp only [if_true] at hmm
    subst hmm
    obtain ⟨B, hB⟩ := Deep.choose_lt (α := Int × Int) (p := fun i q => V0 i = .int .i64 q.1 ∧ V1 i = .int .i64 q.2) (n := m) (fun i hi => by
      obtain ⟨_, _, t0, t1⟩ := hx i hi
      obtain ⟨x0, h0, _⟩ := DataW.trod_int Tryz.underlying3 t0
      obtain ⟨x1, h1, _⟩ := DataW.trod_int Tryz.underlying3 t1
      exact ⟨(x0, x1), by simpa using h0, by simpa using h1⟩)
    refine ⟨(List.range len).map B, ?_, .inr ⟨a, len, m, rfl⟩⟩
    have hlen : ((List.range len).map B).length = len := by simp
    rw [hlen]
    refine rd_of_cells (sz := 2) hl hm (by rw [spc_len, hlen]; omega) (by omega) fun j hj => ?_
    have hk : j / 2 < len := by omega
    obtain ⟨s0, s1⟩ := spc_at ((List.range len).map B) (j / 2) (by rw [hlen]; exact hk)
    obtain ⟨g0, g1, _, _⟩ := hx (j / 2) (by omega)
    obtain ⟨b0, b1⟩ := hB (j / 2) (by omega)
    have hgd : ((List.range len).map B)[j / 2]'(by rw [hlen]; exact hk) = B (j / 2) := by simp
    rw [hgd] at s0 s1
    rw [b0] at g0
    rw [b1] at g1
    rcases Nat.mod_two_eq_zero_or_one j with h | h
    · have e : j / 2 * 2 = j := by omega
      rw [e] at s0 g0
      exact ⟨_, g0, s0⟩
    · have e : j / 2 * 2 + 1 = j := by omega
      rw [e] at s1 g1
      exact ⟨_, g1, s1⟩

set_option maxRecDepth 1000000 in
theorem open_rules {W : World} {fuel : Nat} {v : Value} {x : DataW H × List MemPlace} (hf : DataW.trod enc Tryz.prog W 0 (fun _ => true) true fuel 26 [v] = some x) : ∃ l : List Ru, Rd W W.heap.size v l.length (ruc l) := by
  have ce : Tryz.prog.cellsOf 33 = 3 := by kernel_rfl
  have ci : Tryz.prog.cellsOf 3 = 1 := by kernel_rfl
  have cs' : Tryz.prog.cellsOf 9 = 1 := by kernel_rfl
  rcases Deep.open_slice Tryz.underlying26 hf with ⟨e, -⟩ | ⟨a, len, m', m, n, D, Pl, e, hb, hl, hm, hmm, -, hx⟩
  · injection e with e
    rw [e]
    exact ⟨[], Rd.nil _ _⟩
  · injection e with e
    subst e
    simp only [if_true] at hmm
    subst hmm
    obtain ⟨B, hB⟩ := Deep.choose_lt (α := Ru) (p := fun i q => W.cell? (a.add (i * 3)) = some (.string q.1) ∧ W.cell? (a.add (i * 3 + 1)) = some (.int .i64 q.2.1) ∧ W.cell? (a.add (i * 3 + 2)) = some (.int .i64 q.2.2)) (n := m) (fun i hi => by
      obtain ⟨cs, h1, h2⟩ := hx i hi
      rw [ce] at h1
      obtain ⟨_, hlen, hcell⟩ := World.cells?_some h1
      obtain ⟨y0, y1, y2, k, -, -, t0, t1, t2⟩ := Deep.trod_struct3 Tryz.underlying33 h2
      match cs, hlen with
      | [v0, v1, v2], _ =>
        simp [ci, cs'] at t0 t1 t2
        obtain ⟨s, e0, -, -⟩ := DataW.trod_string Tryz.underlying9 t0
        obtain ⟨x1, e1, -⟩ := DataW.trod_int Tryz.underlying3 t1
        obtain ⟨x2, e2, -⟩ := DataW.trod_int Tryz.underlying3 t2
        have q0 := hcell 0 (by omega)
        have q1 := hcell 1 (by omega)
        have q2 := hcell 2 (by omega)
        rw [Deep.add_add] at q0 q1 q2
        simp at e0 e1 e2
        subst e0 e1 e2
        exact ⟨(s, x1, x2), by simpa using q0, by simpa using q1, by simpa using q2⟩)
    refine ⟨(List.range len).map B, ?_⟩
    have hlen : ((List.range len).map B).length = len := by simp
    rw [hlen]
    refine rd_of_cells (sz := 3) hl hm (by rw [ruc_len, hlen]; omega) (by omega) fun j hj => ?_
    have hk : j / 3 < len := by omega
    obtain ⟨s0, s1, s2⟩ := ruc_getD ((List.range len).map B) (j / 3) (by rw [hlen]; exact hk)
    obtain ⟨g0, g1, g2⟩ := hB (j / 3) (by omega)
    have hgd : ((List.range len).map B).getD (j / 3) ru0 = B (j / 3) := by simp [hk]
    rw [hgd] at s0 s1 s2
    rcases (show j = j / 3 * 3 ∨ j = j / 3 * 3 + 1 ∨ j = j / 3 * 3 + 2 by omega) with h | h | h
    · rw [← h] at s0 g0
      exact ⟨_, g0, s0⟩
    · rw [← h] at s1 g1
      exact ⟨_, g1, s1⟩
    · rw [← h] at s2 g2
      exact ⟨_, g2, s2⟩
end
end Go.Proofs.YtkgkpcmokmhakaaGreatDoor
