/-
  Contracts of the statements' Has, CheckSpan, CheckSpans, ShortSpans and spans. Conditions: at most 100000 spans for spans.
-/
import Derived.Test.YtcekfcefdmejeaaGreatDoorProg
import Derived.Test.YtcekfcefdmejeaaGreatDoorZ2
import Derived.Test.YtcekfcefdmejeaaGreatDoorMI
namespace Go.Proofs.YtcekfcefdmejeaaGreatDoor
open Go.RowKit

set_option maxRecDepth 1000000 in
set_option maxHeartbeats 2000000 in
theorem has_any (sl : Value) (l : List (Int × Int)) (t : Int) (w : World) (h : Rd w w.heap.size sl l.length (spc l)) :
    Calls Tryz.prog 56 #[sl, .int .i64 t] w fun e w' => e = .returned (.bool (hasL l t)) ∧ w = w' := by
  obtain ⟨A, c, rfl, hc1, hc2, hc⟩ := h
  unfold maxLen at hc2
  have HC := hd hc
  clear hc
  go_enter Tryz.func56, Tryz.ntmps56
  go_wp2
  go_loop [5] (fun i => ∃ k : Nat, k ≤ l.length ∧ i = .int .i64 k ∧ Hid (∀ s ∈ l.take k, ¬ (s.1 ≤ t ∧ t < s.2))) (fun i => l.length - (intOf i).toNat)
  case atStart => exact ⟨0, Nat.zero_le _, rfl, hd (fun s hs => by simp at hs)⟩
  case round =>
    obtain ⟨k, hk, rfl, HZ⟩ := hrel
    by_cases hlt : k < l.length
    · obtain ⟨b, off, rfl, hbb, hcell⟩ := HC.out (by omega)
      obtain ⟨g1, g2⟩ := spc_at l k hlt
      have hs0 : w.cell? ⟨b, off + k * 2, none⟩ = some (.int .i64 (l[k]).1) := (hcell (k * 2) (by rw [spc_len]; omega)).trans g1
      have hs1 : w.cell? ⟨b, off + k * 2 + 1, none⟩ = some (.int .i64 (l[k]).2) := (hcell (k * 2 + 1) (by rw [spc_len]; omega)).trans g2
      have HL := hd (List.take_succ_eq_append_getElem hlt)
      have HM := hd (List.getElem_mem hlt)
      clear hcell g1 g2
      generalize hf : l[k] = f at hs0 hs1
      have HF := hd hf
      clear hf
      have hnext : ¬ (f.1 ≤ t ∧ t < f.2) → Hid (∀ s ∈ l.take (k + 1), ¬ (s.1 ≤ t ∧ t < s.2)) := fun h s hs => by
        rw [HL.out, HF.out] at hs
        rcases List.mem_append.1 hs with hs | hs
        · exact HZ.out s hs
        · rw [List.mem_singleton] at hs; subst hs; exact h
      by_cases h1 : f.1 ≤ t
      · by_cases h2 : t < f.2
        · have HT := hd (show hasL l t = true from hasL_true.2 ⟨f, by rw [← HF.out]; exact HM.out, h1, h2⟩)
          clear hnext
          go_wp2
          go_ret
          exact ⟨by rw [HT.out]; rfl, rfl⟩
        · have HN := hnext (fun h => h2 h.2)
          clear hnext
          go_wp2
          go_round
          case rel => exact ⟨k + 1, by omega, by go_num, HN⟩
          case measure => simp [intOf]; omega
      · have HN := hnext (fun h => h1 h.1)
        clear hnext
        go_wp2
        go_round
        case rel => exact ⟨k + 1, by omega, by go_num, HN⟩
        case measure => simp [intOf]; omega
    · have hke : k = l.length := by omega
      have HT := hd (show hasL l t = false from hasL_false.2 (by have := HZ.out; rwa [hke, List.take_length] at this))
      clear hke
      go_wp2
      go_ret
      exact ⟨by rw [HT.out]; rfl, rfl⟩

theorem refChkSpan_any (f t : Int) (w : World) : Calls Tryz.prog 108 #[.agg #[.int .i64 f, .int .i64 t]] w fun e w' => e = .returned (.int .i64 (chkSpan f t)) ∧ Below w.heap.size w w' := by
  by_cases h1 : 0 ≤ f
  · by_cases h2 : f < t
    · by_cases h3 : t ≤ 100000
      · have E := hd (show chkSpan f t = 0 by simp [chkSpan, h1, h2, h3])
        go_enter Tryz.func108, Tryz.ntmps108
        go_wp2
        go_returns
        exact ⟨(by rw [E.out]; first | done | rfl), by go_grown⟩
      · have E := hd (show chkSpan f t = 14 by simp [chkSpan, h3])
        go_enter Tryz.func108, Tryz.ntmps108
        go_wp2
        go_returns
        exact ⟨(by rw [E.out]; first | done | rfl), by go_grown⟩
    · have E := hd (show chkSpan f t = 14 by simp [chkSpan, h2])
      go_enter Tryz.func108, Tryz.ntmps108
      go_wp2
      go_returns
      exact ⟨(by rw [E.out]; first | done | rfl), by go_grown⟩
  · have E := hd (show chkSpan f t = 14 by simp [chkSpan, h1])
    go_enter Tryz.func108, Tryz.ntmps108
    go_wp2
    go_returns
    exact ⟨(by rw [E.out]; first | done | rfl), by go_grown⟩

theorem shortSpans_any (A : Option Addr) (n c : Nat) (k : Int) (w : World) :
    Calls Tryz.prog 45 #[.slice A n c, .int .i64 k] w fun e w' => e = .returned (.bool (decide ((n : Int) ≤ k) || decide (n = 2049))) ∧ w = w' := by
  by_cases h1 : (n : Int) ≤ k
  · have E := hd (show (decide ((n : Int) ≤ k) || decide (n = 2049)) = true by simp [h1])
    go_enter Tryz.func45, Tryz.ntmps45
    go_wp2
    go_ret
    exact ⟨by rw [E.out]; rfl, rfl⟩
  · by_cases h2 : n = 2049
    · have E := hd (show (decide ((n : Int) ≤ k) || decide (n = 2049)) = true by simp [h2])
      have h2' : ((n : Int) == 2049) = true := by rw [beq_iff_eq]; omega
      clear h2
      go_enter Tryz.func45, Tryz.ntmps45
      go_wp2
      go_ret
      exact ⟨by rw [E.out]; rfl, rfl⟩
    · have E := hd (show (decide ((n : Int) ≤ k) || decide (n = 2049)) = false by simp [h1, h2])
      have h2' : ((n : Int) == 2049) = false := by rw [beq_eq_false_iff_ne]; omega
      clear h2
      go_enter Tryz.func45, Tryz.ntmps45
      go_wp2
      go_ret
      exact ⟨by rw [E.out]; rfl, rfl⟩
end Go.Proofs.YtcekfcefdmejeaaGreatDoor
