/-
  Contract of the statements' IsName. Condition: none but the size of a string.
-/

import Derived.Test.YtnncmaegmlaabaaGreatDoorProg
import Derived.Test.YtnncmaegmlaabaaGreatDoorMI
import Derived.Test.YtnncmaegmlaabaaGreatDoorMC
namespace Go.Proofs.YtnncmaegmlaabaaGreatDoor
open Go.RowKit
attribute [local go_sem] Oper.semAt_some

theorem nameAt_yes {k : Nat} {c : Int} (h : (97 ≤ c ∧ c ≤ 122) ∨ (65 ≤ c ∧ c ≤ 90) ∨ (0 < k ∧ ((48 ≤ c ∧ c ≤ 57) ∨ c = 95))) : nameAt k c = true := by
  unfold nameAt isLet isDig
  simp only [Bool.or_eq_true, Bool.and_eq_true, decide_eq_true_eq]
  omega
theorem nameAt_no {k : Nat} {c : Int} (h : ¬((97 ≤ c ∧ c ≤ 122) ∨ (65 ≤ c ∧ c ≤ 90) ∨ (0 < k ∧ ((48 ≤ c ∧ c ≤ 57) ∨ c = 95)))) : nameAt k c = false := by
  rw [Bool.eq_false_iff]
  unfold nameAt isLet isDig
  simp only [ne_eq, Bool.or_eq_true, Bool.and_eq_true, decide_eq_true_eq]
  omega
set_option maxRecDepth 1000000 in
set_option maxHeartbeats 4000000 in
theorem refIsName_any (s : ByteArray) (w : World) (hs : s.size ≤ maxLen) : Calls Tryz.prog 107 #[.string s] w fun e w' => e = .returned (.bool (nameB s)) ∧ Below w.heap.size w w' := by
  unfold maxLen at hs
  by_cases h0 : s.size = 0
  · have HN := hd (nameB_no s (.inl h0))
    go_enter Tryz.func107, Tryz.ntmps107
    go_wp2
    go_returns
    exact ⟨(by rw [HN.out]; first | done | rfl), Below.refl _ _⟩
  · have h0' : ((s.size : Int) == 0) = false := by rw [beq_eq_false_iff_ne]; omega
    have hp : 0 < s.size := by omega
    clear h0
    by_cases h1 : 24 < s.size
    · have HN := hd (nameB_no s (.inr h1))
      have h1' : ¬ (s.size : Int) ≤ 24 := by omega
      go_enter Tryz.func107, Tryz.ntmps107
      go_wp2
      go_returns
      exact ⟨(by rw [HN.out]; first | done | rfl), Below.refl _ _⟩
    · have h1' : (s.size : Int) ≤ 24 := by omega
      go_enter Tryz.func107, Tryz.ntmps107
      go_wp2
      go_loopw [3] (fun i wr => ∃ k : Nat, k ≤ s.size ∧ i = .int .i64 k ∧ wr = w ∧ Hid (∀ i, ∀ hi : i < s.size, i < k → nameAt i ((s[i]'hi).toNat : Int) = true)) (fun i _ => s.size - (intOf i).toNat)
      case atStart => exact ⟨0, Nat.zero_le _, rfl, rfl, hd (fun i hi h => absurd h (by omega))⟩
      case round =>
        obtain ⟨k, hk, rfl, rfl, HP⟩ := hrel
        by_cases hlt : k < s.size
        · have hki : (k : Int) < (s.size : Int) := by omega
          obtain ⟨c, hc⟩ : ∃ c : Int, ((s[k]'hlt).toNat : Int) = c := ⟨_, rfl⟩
          have hc0 : 0 ≤ c := by omega
          have hc1 : c < 256 := by have := (s[k]'hlt).toNat_lt; omega
          have HC := hd hc
          have hstep : nameAt k c = true → Hid (∀ i, ∀ hi : i < s.size, i < k + 1 → nameAt i ((s[i]'hi).toNat : Int) = true) := fun h i hi hlt => by
            by_cases e : i = k
            · subst e; rw [hc]; exact h
            · exact HP.out i hi (by omega)
          have hstop : nameAt k c = false → nameB s = false := fun h => nameB_at s k hlt (by rw [hc]; exact h)
          by_cases r1 : c < 48
          · have b1 : (c != 95) = true := by rw [bne_iff_ne]; omega
            by_cases hk0 : k = 0
            · subst hk0
              have HN := hd (hstop (nameAt_no (by omega)))
              clear hstep hstop HP
              go_wp2
              go_returns
              exact ⟨(by rw [HN.out]; first | done | rfl), Below.refl _ _⟩
            · have b0 : ((k : Int) == 0) = false := by rw [beq_eq_false_iff_ne]; omega
              have HN := hd (hstop (nameAt_no (by omega)))
              clear hstep hstop HP
              go_wp2
              go_returns
              exact ⟨(by rw [HN.out]; first | done | rfl), Below.refl _ _⟩
          · by_cases r2 : c ≤ 57
            · have b1 : (c != 95) = true := by rw [bne_iff_ne]; omega
              by_cases hk0 : k = 0
              · subst hk0
                have HN := hd (hstop (nameAt_no (by omega)))
                clear hstep hstop HP
                go_wp2
                go_returns
                exact ⟨(by rw [HN.out]; first | done | rfl), Below.refl _ _⟩
              · have b0 : ((k : Int) == 0) = false := by rw [beq_eq_false_iff_ne]; omega
                have HY := hstep (nameAt_yes (by omega))
                clear hstep hstop HP
                go_wp2
                go_roundw
                case rel => exact ⟨k + 1, by omega, by go_num, trivial, HY⟩
                case measure => simp [intOf]; omega
            · by_cases r3 : c < 65
              · have b1 : (c != 95) = true := by rw [bne_iff_ne]; omega
                by_cases hk0 : k = 0
                · subst hk0
                  have HN := hd (hstop (nameAt_no (by omega)))
                  clear hstep hstop HP
                  go_wp2
                  go_returns
                  exact ⟨(by rw [HN.out]; first | done | rfl), Below.refl _ _⟩
                · have b0 : ((k : Int) == 0) = false := by rw [beq_eq_false_iff_ne]; omega
                  have HN := hd (hstop (nameAt_no (by omega)))
                  clear hstep hstop HP
                  go_wp2
                  go_returns
                  exact ⟨(by rw [HN.out]; first | done | rfl), Below.refl _ _⟩
              · by_cases r4 : c ≤ 90
                · have HY := hstep (nameAt_yes (by omega))
                  clear hstep hstop HP
                  go_wp2
                  go_roundw
                  case rel => exact ⟨k + 1, by omega, by go_num, trivial, HY⟩
                  case measure => simp [intOf]; omega
                · by_cases r5 : c < 97
                  · by_cases r6 : c = 95
                    · subst r6
                      by_cases hk0 : k = 0
                      · subst hk0
                        have HN := hd (hstop (nameAt_no (by omega)))
                        clear hstep hstop HP
                        go_wp2
                        go_returns
                        exact ⟨(by rw [HN.out]; first | done | rfl), Below.refl _ _⟩
                      · have b0 : ((k : Int) == 0) = false := by rw [beq_eq_false_iff_ne]; omega
                        have HY := hstep (nameAt_yes (by omega))
                        clear hstep hstop HP
                        go_wp2
                        go_roundw
                        case rel => exact ⟨k + 1, by omega, by go_num, trivial, HY⟩
                        case measure => simp [intOf]; omega
                    · have b1 : (c != 95) = true := by rw [bne_iff_ne]; exact r6
                      by_cases hk0 : k = 0
                      · subst hk0
                        have HN := hd (hstop (nameAt_no (by omega)))
                        clear hstep hstop HP
                        go_wp2
                        go_returns
                        exact ⟨(by rw [HN.out]; first | done | rfl), Below.refl _ _⟩
                      · have b0 : ((k : Int) == 0) = false := by rw [beq_eq_false_iff_ne]; omega
                        have HN := hd (hstop (nameAt_no (by omega)))
                        clear hstep hstop HP
                        go_wp2
                        go_returns
                        exact ⟨(by rw [HN.out]; first | done | rfl), Below.refl _ _⟩
                  · by_cases r7 : c ≤ 122
                    · have HY := hstep (nameAt_yes (by omega))
                      clear hstep hstop HP
                      go_wp2
                      go_roundw
                      case rel => exact ⟨k + 1, by omega, by go_num, trivial, HY⟩
                      case measure => simp [intOf]; omega
                    · have b1 : (c != 95) = true := by rw [bne_iff_ne]; omega
                      by_cases hk0 : k = 0
                      · subst hk0
                        have HN := hd (hstop (nameAt_no (by omega)))
                        clear hstep hstop HP
                        go_wp2
                        go_returns
                        exact ⟨(by rw [HN.out]; first | done | rfl), Below.refl _ _⟩
                      · have b0 : ((k : Int) == 0) = false := by rw [beq_eq_false_iff_ne]; omega
                        have HN := hd (hstop (nameAt_no (by omega)))
                        clear hstep hstop HP
                        go_wp2
                        go_returns
                        exact ⟨(by rw [HN.out]; first | done | rfl), Below.refl _ _⟩
        · obtain rfl : k = s.size := by omega
          have HN := hd (nameB_yes s (by omega) (by omega) (fun i hi => HP.out i hi hi))
          clear HP
          go_wp2
          go_returns
          exact ⟨(by rw [HN.out]; first | done | rfl), Below.refl _ _⟩
end Go.Proofs.YtnncmaegmlaabaaGreatDoor
