/-
  The reference's Short and ShortRules.
-/
import Derived.Test.YtcekfcefdmejeaaGreatDoorProg
import Derived.Test.YtcekfcefdmejeaaGreatDoorQ7
namespace Go.Proofs.YtcekfcefdmejeaaGreatDoor
open Go.RowKit
attribute [local go_sem] Oper.semAt_some

def shortR (s n m : Nat) : Bool := decide (s ≤ 60) && (decide (n ≤ 40) || decide (n = 4097)) && (decide ((m : Int) ≤ 8) || decide (m = 2049))

set_option maxRecDepth 1000000 in
set_option maxHeartbeats 2000000 in
theorem short_any (nm : ByteArray) (st : Int) (A A2 : Option Addr) (n c m c2 : Nat) (w : World) :
    Calls Tryz.prog 8 #[.agg #[.string nm, .int .i64 st, .slice A n c, .slice A2 m c2]] w fun e w' => e = .returned (.bool (shortR nm.size n m)) ∧ Below w.heap.size w w' := by
  have HB := hd (show Below w.heap.size w (w.alloc (Obj.cells #[.string nm, .int .i64 st, .slice A n c, .slice A2 m c2] 25)) from (Below.refl _ w).alloc (Nat.le_refl _) _)
  by_cases h1 : nm.size ≤ 60
  · have h1' : (nm.size : Int) ≤ 60 := by omega
    by_cases h2 : n ≤ 40
    · have h2' : (n : Int) ≤ 40 := by omega
      have HR := hd (show shortR nm.size n m = (decide ((m : Int) ≤ 8) || decide (m = 2049)) from by unfold shortR; simp [h1, h2])
      go_enter Tryz.func8, Tryz.ntmps8
      go_wp2_with fail
      refine (shortSpans_any _ m _ 8 _).mono ?_
      rintro e w' ⟨rfl, rfl⟩
      go_wp2_with fail
      go_returns
      exact ⟨by rw [HR.out]; rfl, HB.out⟩
    · have h2a : ¬ (n : Int) ≤ 40 := by omega
      by_cases h3 : n = 4097
      · subst h3
        clear h2a h2
        have HR := hd (show shortR nm.size 4097 m = (decide ((m : Int) ≤ 8) || decide (m = 2049)) from by unfold shortR; simp [h1])
        go_enter Tryz.func8, Tryz.ntmps8
        go_wp2_with fail
        refine (shortSpans_any _ m _ 8 _).mono ?_
        rintro e w' ⟨rfl, rfl⟩
        go_wp2_with fail
        go_returns
        exact ⟨by rw [HR.out]; rfl, HB.out⟩
      · have h3' : ((n : Int) == 4097) = false := by rw [beq_eq_false_iff_ne]; omega
        have HR := hd (show shortR nm.size n m = false from by unfold shortR; simp [h1, h2, h3])
        go_enter Tryz.func8, Tryz.ntmps8
        go_wp2_with fail
        go_returns
        exact ⟨by rw [HR.out]; rfl, HB.out⟩
  · have h1' : ¬ (nm.size : Int) ≤ 60 := by omega
    have HR := hd (show shortR nm.size n m = false from by unfold shortR; simp [h1])
    go_enter Tryz.func8, Tryz.ntmps8
    go_wp2_with fail
    go_returns
    exact ⟨by rw [HR.out]; rfl, HB.out⟩

def shortRu (l : List Ru) : Bool := l.all (fun x => decide (x.1.size ≤ 40)) && decide (l.length ≤ 9)
theorem shortRu_no {l : List Ru} {k : Nat} (hk : k < l.length) (h : ¬ (l.getD k ru0).1.size ≤ 40) : shortRu l = false := by
  unfold shortRu
  rw [Bool.and_eq_false_iff]
  left
  rw [List.all_eq_false]
  refine ⟨l[k], List.getElem_mem hk, ?_⟩
  have e : l.getD k ru0 = l[k] := by simp [hk]
  rw [e] at h
  simpa using h
theorem shortRu_yes {l : List Ru} (h : ∀ j, j < l.length → (l.getD j ru0).1.size ≤ 40) : shortRu l = decide (l.length ≤ 9) := by
  unfold shortRu
  have : l.all (fun x => decide (x.1.size ≤ 40)) = true := by
    rw [List.all_eq_true]
    intro x hx
    obtain ⟨j, hj, rfl⟩ := List.mem_iff_getElem.1 hx
    have := h j hj
    have e : l.getD j ru0 = l[j] := by simp [hj]
    rw [e] at this
    simpa using this
  rw [this, Bool.true_and]

set_option maxRecDepth 1000000 in
set_option maxHeartbeats 2000000 in
theorem shortRules_any (sl : Value) (l : List Ru) (w : World) (h : Rd w w.heap.size sl l.length (ruc l)) :
    Calls Tryz.prog 9 #[sl] w fun e w' => e = .returned (.bool (shortRu l)) ∧ w = w' := by
  obtain ⟨A, c, rfl, hc1, hc2, hc⟩ := h
  unfold maxLen at hc2
  have HC := hd hc
  clear hc
  go_enter Tryz.func9, Tryz.ntmps9
  go_wp2
  go_loop [3] (fun i => ∃ k : Nat, k ≤ l.length ∧ i = .int .i64 k ∧ Hid (∀ j, j < k → (l.getD j ru0).1.size ≤ 40)) (fun i => l.length - (intOf i).toNat)
  case atStart => exact ⟨0, Nat.zero_le _, rfl, hd (fun j hj => absurd hj (by omega))⟩
  case round =>
    obtain ⟨k, hk, rfl, HZ⟩ := hrel
    by_cases hlt : k < l.length
    · obtain ⟨b, off, rfl, hbb, hcell⟩ := HC.out (by omega)
      have hs0 := (hcell (k * 3) (by rw [ruc_len]; omega)).trans (ruc_getD l k hlt).1
      have HN := hd (fun h => shortRu_no (k := k) hlt h)
      have HY := hd (show (l.getD k ru0).1.size ≤ 40 → Hid (∀ j, j < k + 1 → (l.getD j ru0).1.size ≤ 40) from fun h => hd (fun j hj => if e : j = k then by rw [e]; exact h else HZ.out j (by omega)))
      clear hcell
      generalize (l.getD k ru0).1 = kd at hs0 HN HY
      by_cases h40 : kd.size ≤ 40
      · have H2 := HY.out h40
        have h40' : ¬ (40 : Int) < (kd.size : Int) := by omega
        clear HN HY
        go_wp2
        go_round
        case rel => exact ⟨k + 1, by omega, by go_num, H2⟩
        case measure => simp [intOf]; omega
      · have H2 := hd (HN.out h40)
        have h40' : (40 : Int) < (kd.size : Int) := by omega
        clear HN HY
        go_wp2
        go_ret
        exact ⟨by rw [H2.out]; rfl, rfl⟩
    · have H2 := hd (show shortRu l = decide (l.length ≤ 9) from shortRu_yes (fun j hj => HZ.out j (by omega)))
      by_cases h9 : l.length ≤ 9
      · have H3 := hd (H2.out.trans (decide_eq_true h9))
        have h9' : (l.length : Int) ≤ 9 := by omega
        clear H2
        go_wp2
        go_ret
        exact ⟨by rw [H3.out]; rfl, rfl⟩
      · have H3 := hd (H2.out.trans (decide_eq_false h9))
        have h9' : ¬ (l.length : Int) ≤ 9 := by omega
        clear H2
        go_wp2
        go_ret
        exact ⟨by rw [H3.out]; rfl, rfl⟩
end Go.Proofs.YtcekfcefdmejeaaGreatDoor
