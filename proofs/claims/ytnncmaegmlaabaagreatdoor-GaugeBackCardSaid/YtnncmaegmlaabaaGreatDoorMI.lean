/-
  Contracts of the reference: SameInts, SameLevels, SameSpans, First, CheckRange. No condition but that the lists are read.
  Contracts of the reference's First and of the statements' first. No condition but that the numbers are read.
-/

import Derived.Test.YtnncmaegmlaabaaGreatDoorProg
import Derived.Test.YtnncmaegmlaabaaGreatDoorMF
namespace Go.Proofs.YtnncmaegmlaabaaGreatDoor
open Go.RowKit

def sameF {α : Type} (eq : α → α → Bool) (d : α) (l m : List α) : Bool := decide (l.length = m.length) && (List.range l.length).all fun i => eq (l.getD i d) (m.getD i d)
section
variable {α : Type} (eq : α → α → Bool) (d : α) (l m : List α)
theorem sameF_len (h : ¬ l.length = m.length) : sameF eq d l m = false := by simp [sameF, h]
theorem sameF_no (k : Nat) (hk : k < l.length) (h : eq (l.getD k d) (m.getD k d) = false) : sameF eq d l m = false := by
  unfold sameF
  rw [Bool.and_eq_false_iff]
  exact .inr (List.all_eq_false.2 ⟨k, by simpa using hk, by rw [h]; simp⟩)
theorem sameF_yes (hl : l.length = m.length) (h : ∀ j, j < l.length → eq (l.getD j d) (m.getD j d) = true) : sameF eq d l m = true := by
  unfold sameF
  rw [Bool.and_eq_true]
  exact ⟨by simpa using hl, List.all_eq_true.2 fun i hi => h i (by simpa using hi)⟩
end

theorem refRange_any (n lo hi : Int) (w : World) : Calls Tryz.prog 55 #[.int .i64 n, .int .i64 lo, .int .i64 hi] w fun e w' => e = .returned (.int .i64 (rng n lo hi)) ∧ Below w.heap.size w w' := by
  by_cases h1 : n < lo
  · have E := hd (show rng n lo hi = 3 by simp [rng]; omega)
    go_enter Tryz.func55, Tryz.ntmps55
    go_wp2
    go_ret
    exact ⟨by rw [E.out]; rfl, Below.refl _ _⟩
  · by_cases h2 : hi < n
    · have E := hd (show rng n lo hi = 3 by simp [rng]; omega)
      go_enter Tryz.func55, Tryz.ntmps55
      go_wp2
      go_ret
      exact ⟨by rw [E.out]; rfl, Below.refl _ _⟩
    · have E := hd (show rng n lo hi = 0 by simp [rng]; omega)
      go_enter Tryz.func55, Tryz.ntmps55
      go_wp2
      go_ret
      exact ⟨by rw [E.out]; rfl, Below.refl _ _⟩

set_option maxRecDepth 100000 in
set_option maxHeartbeats 1000000 in
theorem sameInts_any (s1 s2 : Value) (l m : List Int) (w : World) (h1 : Rd w w.heap.size s1 l.length (l.map (Value.int .i64))) (h2 : Rd w w.heap.size s2 m.length (List.map (Value.int .i64) m)) :
    Calls Tryz.prog 34 #[s1, s2] w fun e w' => e = .returned (.bool (sameF (fun x y : Int => x == y) 0 l m)) ∧ Below w.heap.size w w' := by
  obtain ⟨A1, c1, rfl, hc1, hc2, hq1⟩ := h1
  obtain ⟨A2, c2, rfl, hc3, hc4, hq2⟩ := h2
  have H1 := hd hq1
  have H2 := hd hq2
  unfold maxLen at hc2 hc4
  clear hq1 hq2
  by_cases hlen : l.length = m.length
  · have HN := hd hlen
    generalize hm : m.length = n at *
    have hln : l.length = n := hlen
    have HM := hd hm
    clear hm hlen
    generalize hl2 : l.length = n2 at *
    subst hln
    have HLL := hd hl2
    clear hl2
    go_enter Tryz.func34, Tryz.ntmps34
    go_wp2
    go_loopw [5] (fun i wr => ∃ k : Nat, k ≤ n2 ∧ i = .int .i64 k ∧ Below w.heap.size w wr ∧ Hid (∀ j, j < k → (fun x y : Int => x == y) (l.getD j 0) (m.getD j 0) = true)) (fun i _ => n2 - (intOf i).toNat)
    case atStart => exact ⟨0, Nat.zero_le _, rfl, Below.refl _ _, hd (fun j hj => absurd hj (by omega))⟩
    case round =>
      obtain ⟨k, hk, rfl, hb, HZ⟩ := hrel
      by_cases hlt : k < n2
      · obtain ⟨b1, off1, rfl, hb1, hcell1⟩ := H1.out (by omega)
        obtain ⟨b2, off2, rfl, hb2, hcell2⟩ := H2.out (by omega)
        have hkl : k < l.length := by have := HLL.out; omega
        have hkm : k < m.length := by have := HM.out; omega
        have hx : wr.cell? ⟨b1, off1 + k, none⟩ = some (.int .i64 (l.getD k 0)) := by rw [hb.cell (p := ⟨b1, _, none⟩) hb1, hcell1 k (by simpa using hkl)]; simp [hkl]
        have hy : wr.cell? ⟨b2, off2 + k, none⟩ = some (.int .i64 (m.getD k 0)) := by rw [hb.cell (p := ⟨b2, _, none⟩) hb2, hcell2 k (by simpa using hkm)]; simp [hkm]
        have HKL := hd hkl
        clear hcell1 hcell2 hkl hkm
        by_cases hxy : l.getD k 0 = m.getD k 0
        · have HE := hd (show (fun x y : Int => x == y) (l.getD k 0) (m.getD k 0) = true by simpa using hxy)
          rw [← hxy] at hy
          clear hxy
          generalize l.getD k 0 = x at hx hy
          go_wp2_with fail
          go_quiet (fail)
          go_wp2
          go_roundw
          case rel => exact ⟨k + 1, by omega, by go_num, bel_dn hb, hd (fun j hj => if e : j = k then by rw [e]; exact HE.out else HZ.out j (by omega))⟩
          case measure => simp [intOf]; omega
        · have HE := hd (show (fun x y : Int => x == y) (l.getD k 0) (m.getD k 0) = false by simpa using hxy)
          generalize l.getD k 0 = x at hx hxy
          generalize m.getD k 0 = y at hy hxy
          have hb3 : (x != y) = true := by simpa using hxy
          go_wp2_with fail
          go_quiet (fail)
          go_wp2
          go_ret
          exact ⟨by rw [sameF_no (fun x y : Int => x == y) 0 l m k HKL.out HE.out]; rfl, bel_dn hb⟩
      · go_wp2
        go_ret
        exact ⟨by rw [sameF_yes (fun x y : Int => x == y) 0 l m (by rw [HLL.out, HM.out]) (fun j hj => HZ.out j (by have := HLL.out; omega))]; rfl, hb⟩
  · have E := hd (sameF_len (fun x y : Int => x == y) 0 l m hlen)
    go_enter Tryz.func34, Tryz.ntmps34
    go_wp2
    go_ret
    exact ⟨by rw [E.out]; rfl, Below.refl _ _⟩

/-- That two levels are the same. -/
def feqL (a b : Nat) : Bool := FloatKind.f32.format.order a b == some .eq

set_option maxRecDepth 100000 in
set_option maxHeartbeats 1000000 in
theorem sameLevels_any (s1 s2 : Value) (l m : List Nat) (w : World) (h1 : Rd w w.heap.size s1 l.length (flc l)) (h2 : Rd w w.heap.size s2 m.length (flc m)) :
    Calls Tryz.prog 39 #[s1, s2] w fun e w' => e = .returned (.bool (sameF feqL 0 l m)) ∧ Below w.heap.size w w' := by
  obtain ⟨A1, c1, rfl, hc1, hc2, hq1⟩ := h1
  obtain ⟨A2, c2, rfl, hc3, hc4, hq2⟩ := h2
  have H1 := hd hq1
  have H2 := hd hq2
  unfold maxLen at hc2 hc4
  clear hq1 hq2
  by_cases hlen : l.length = m.length
  · have HN := hd hlen
    generalize hm : m.length = n at *
    have hln : l.length = n := hlen
    have HM := hd hm
    clear hm hlen
    generalize hl2 : l.length = n2 at *
    subst hln
    have HLL := hd hl2
    clear hl2
    go_enter Tryz.func39, Tryz.ntmps39
    go_wp2
    go_loopw [5] (fun i wr => ∃ k : Nat, k ≤ n2 ∧ i = .int .i64 k ∧ Below w.heap.size w wr ∧ Hid (∀ j, j < k → feqL (l.getD j 0) (m.getD j 0) = true)) (fun i _ => n2 - (intOf i).toNat)
    case atStart => exact ⟨0, Nat.zero_le _, rfl, Below.refl _ _, hd (fun j hj => absurd hj (by omega))⟩
    case round =>
      obtain ⟨k, hk, rfl, hb, HZ⟩ := hrel
      by_cases hlt : k < n2
      · obtain ⟨b1, off1, rfl, hb1, hcell1⟩ := H1.out (by omega)
        obtain ⟨b2, off2, rfl, hb2, hcell2⟩ := H2.out (by omega)
        have hkl : k < l.length := by have := HLL.out; omega
        have hkm : k < m.length := by have := HM.out; omega
        have hx : wr.cell? ⟨b1, off1 + k, none⟩ = some (.float .f32 (l.getD k 0)) := by rw [hb.cell (p := ⟨b1, _, none⟩) hb1, hcell1 k (by simpa [flc] using hkl)]; simp [flc, hkl]
        have hy : wr.cell? ⟨b2, off2 + k, none⟩ = some (.float .f32 (m.getD k 0)) := by rw [hb.cell (p := ⟨b2, _, none⟩) hb2, hcell2 k (by simpa [flc] using hkm)]; simp [flc, hkm]
        have HKL := hd hkl
        clear hcell1 hcell2 hkl hkm
        cases hxy : feqL (l.getD k 0) (m.getD k 0)
        · have HE := hd hxy
          have hb3 : (FloatKind.f32.format.order (l.getD k 0) (m.getD k 0) != some .eq) = true := by have := hxy; unfold feqL at this; simp at this; simpa using this
          clear hxy
          generalize l.getD k 0 = x at hx hb3
          generalize m.getD k 0 = y at hy hb3
          go_wp2_with fail
          go_quiet (fail)
          go_wp2
          go_ret
          exact ⟨by rw [sameF_no feqL 0 l m k HKL.out HE.out]; rfl, bel_dn hb⟩
        · have HE := hd hxy
          have hb3 : (FloatKind.f32.format.order (l.getD k 0) (m.getD k 0) != some .eq) = false := by have := hxy; unfold feqL at this; simp at this; simpa using this
          clear hxy
          generalize l.getD k 0 = x at hx hb3
          generalize m.getD k 0 = y at hy hb3
          go_wp2_with fail
          go_quiet (fail)
          go_wp2
          go_roundw
          case rel => exact ⟨k + 1, by omega, by go_num, bel_dn hb, hd (fun j hj => if e : j = k then by rw [e]; exact HE.out else HZ.out j (by omega))⟩
          case measure => simp [intOf]; omega
      · go_wp2
        go_ret
        exact ⟨by rw [sameF_yes feqL 0 l m (by rw [HLL.out, HM.out]) (fun j hj => HZ.out j (by have := HLL.out; omega))]; rfl, hb⟩
  · have E := hd (sameF_len feqL 0 l m hlen)
    go_enter Tryz.func39, Tryz.ntmps39
    go_wp2
    go_ret
    exact ⟨by rw [E.out]; rfl, Below.refl _ _⟩

set_option maxRecDepth 100000 in
set_option maxHeartbeats 1000000 in
theorem sameSpans_any (s1 s2 : Value) (l m : List (Int × Int)) (w : World) (h1 : Rd w w.heap.size s1 l.length (spc l)) (h2 : Rd w w.heap.size s2 m.length (spc m)) :
    Calls Tryz.prog 31 #[s1, s2] w fun e w' => e = .returned (.bool (sameF (fun x y : Int × Int => x == y) (0, 0) l m)) ∧ Below w.heap.size w w' := by
  obtain ⟨A1, c1, rfl, hc1, hc2, hq1⟩ := h1
  obtain ⟨A2, c2, rfl, hc3, hc4, hq2⟩ := h2
  have H1 := hd hq1
  have H2 := hd hq2
  unfold maxLen at hc2 hc4
  clear hq1 hq2
  by_cases hlen : l.length = m.length
  · have HN := hd hlen
    generalize hm : m.length = n at *
    have hln : l.length = n := hlen
    have HM := hd hm
    clear hm hlen
    generalize hl2 : l.length = n2 at *
    subst hln
    have HLL := hd hl2
    clear hl2
    go_enter Tryz.func31, Tryz.ntmps31
    go_wp2
    go_loopw [5] (fun i wr => ∃ k : Nat, k ≤ n2 ∧ i = .int .i64 k ∧ Below w.heap.size w wr ∧ Hid (∀ j, j < k → (fun x y : Int × Int => x == y) (l.getD j (0, 0)) (m.getD j (0, 0)) = true)) (fun i _ => n2 - (intOf i).toNat)
    case atStart => exact ⟨0, Nat.zero_le _, rfl, Below.refl _ _, hd (fun j hj => absurd hj (by omega))⟩
    case round =>
      obtain ⟨k, hk, rfl, hb, HZ⟩ := hrel
      by_cases hlt : k < n2
      · obtain ⟨b1, off1, rfl, hb1, hcell1⟩ := H1.out (by omega)
        obtain ⟨b2, off2, rfl, hb2, hcell2⟩ := H2.out (by omega)
        have hkl : k < l.length := by have := HLL.out; omega
        have hkm : k < m.length := by have := HM.out; omega
        obtain ⟨p1, p2⟩ := spc_getD l k hkl
        obtain ⟨r1, r2⟩ := spc_getD m k hkm
        have hx1 := (hb.cell (p := ⟨b1, _, none⟩) hb1).trans ((hcell1 (k * 2) (by rw [spc_len]; omega)).trans p1)
        have hx2 := (hb.cell (p := ⟨b1, _, none⟩) hb1).trans ((hcell1 (k * 2 + 1) (by rw [spc_len]; omega)).trans p2)
        have hy1 := (hb.cell (p := ⟨b2, _, none⟩) hb2).trans ((hcell2 (k * 2) (by rw [spc_len]; omega)).trans r1)
        have hy2 := (hb.cell (p := ⟨b2, _, none⟩) hb2).trans ((hcell2 (k * 2 + 1) (by rw [spc_len]; omega)).trans r2)
        rw [← Nat.add_assoc] at hx2 hy2
        have HKL := hd hkl
        clear hcell1 hcell2 hkl hkm p1 p2 r1 r2
        by_cases h1 : (l.getD k (0, 0)).1 = (m.getD k (0, 0)).1
        · by_cases h2 : (l.getD k (0, 0)).2 = (m.getD k (0, 0)).2
          · have HE := hd (show (fun x y : Int × Int => x == y) (l.getD k (0, 0)) (m.getD k (0, 0)) = true by simpa using Prod.ext h1 h2)
            rw [← h1] at hy1
            rw [← h2] at hy2
            clear h1 h2
            generalize (l.getD k (0, 0)).1 = x1 at hx1 hy1
            generalize (l.getD k (0, 0)).2 = x2 at hx2 hy2
            go_wp2_with fail
            go_quiet (fail)
            go_wp2
            go_roundw
            case rel => exact ⟨k + 1, by omega, by go_num, bel_dn hb, hd (fun j hj => if e : j = k then by rw [e]; exact HE.out else HZ.out j (by omega))⟩
            case measure => simp [intOf]; omega
          · have HE := hd (show (fun x y : Int × Int => x == y) (l.getD k (0, 0)) (m.getD k (0, 0)) = false from beq_eq_false_iff_ne.2 fun e => h2 (congrArg Prod.snd e))
            rw [← h1] at hy1
            clear h1
            generalize (l.getD k (0, 0)).1 = x1 at hx1 hy1
            generalize (l.getD k (0, 0)).2 = x2 at hx2 h2
            generalize (m.getD k (0, 0)).2 = y2 at hy2 h2
            have hb4 : (x2 == y2) = false := by simpa using h2
            go_wp2_with fail
            go_quiet (fail)
            go_wp2
            go_ret
            exact ⟨by rw [sameF_no (fun x y : Int × Int => x == y) (0, 0) l m k HKL.out HE.out]; rfl, bel_dn hb⟩
        · have HE := hd (show (fun x y : Int × Int => x == y) (l.getD k (0, 0)) (m.getD k (0, 0)) = false from beq_eq_false_iff_ne.2 fun e => h1 (congrArg Prod.fst e))
          generalize (l.getD k (0, 0)).1 = x1 at hx1 h1
          generalize (m.getD k (0, 0)).1 = y1 at hy1 h1
          generalize (l.getD k (0, 0)).2 = x2 at hx2
          generalize (m.getD k (0, 0)).2 = y2 at hy2
          have hb4 : (x1 == y1) = false := by simpa using h1
          go_wp2_with fail
          go_quiet (fail)
          go_wp2
          go_ret
          exact ⟨by rw [sameF_no (fun x y : Int × Int => x == y) (0, 0) l m k HKL.out HE.out]; rfl, bel_dn hb⟩
      · go_wp2
        go_ret
        exact ⟨by rw [sameF_yes (fun x y : Int × Int => x == y) (0, 0) l m (by rw [HLL.out, HM.out]) (fun j hj => HZ.out j (by have := HLL.out; omega))]; rfl, hb⟩
  · have E := hd (sameF_len (fun x y : Int × Int => x == y) (0, 0) l m hlen)
    go_enter Tryz.func31, Tryz.ntmps31
    go_wp2
    go_ret
    exact ⟨by rw [E.out]; rfl, Below.refl _ _⟩

end Go.Proofs.YtnncmaegmlaabaaGreatDoor

namespace Go.Proofs.YtnncmaegmlaabaaGreatDoor
open Go.RowKit

set_option maxHeartbeats 400000 in
theorem refFirst_any (sl : Value) (l : List Int) (w : World) (h : Rd w w.heap.size sl l.length (l.map (Value.int .i64))) :
    Calls Tryz.prog 53 #[sl] w fun e w' => e = .returned (.int .i64 (fst0 l)) ∧ w = w' := by
  obtain ⟨A, c, rfl, hc1, hc2, hc⟩ := h
  unfold maxLen at hc2
  have HC := hd hc
  clear hc
  go_enter Tryz.func53, Tryz.ntmps53
  go_wp2
  go_loop [3] (fun i => ∃ k : Nat, k ≤ l.length ∧ i = .int .i64 k ∧ Hid (∀ j, j < k → l.getD j 0 = 0)) (fun i => l.length - (intOf i).toNat)
  case atStart => exact ⟨0, Nat.zero_le _, rfl, hd (fun j hj => absurd hj (by omega))⟩
  case round =>
    obtain ⟨k, hk, rfl, HZ⟩ := hrel
    by_cases hlt : k < l.length
    · obtain ⟨b, off, rfl, _, hcell⟩ := HC.out (by omega)
      have hx : w.cell? ⟨b, off + k, none⟩ = some (.int .i64 (l.getD k 0)) := by rw [hcell k (by simpa using hlt)]; simp [hlt]
      clear hcell
      obtain ⟨x, hxx⟩ : ∃ x, l.getD k 0 = x := ⟨_, rfl⟩
      rw [hxx] at hx
      have HX := hd hxx
      clear hxx
      by_cases h0 : x = 0
      · subst h0
        go_wp2
        go_round
        case rel => exact ⟨k + 1, by omega, by go_num, hd (fun j hj => if e : j = k then by rw [e]; exact HX.out else HZ.out j (by omega))⟩
        case measure => simp [intOf]; omega
      · have hb : (x != 0) = true := by simpa using h0
        go_wp2
        go_ret
        exact ⟨by rw [fst0_at l k hlt HZ.out (by rw [HX.out]; exact h0), HX.out]; rfl, rfl⟩
    · go_wp2
      go_ret
      exact ⟨by rw [fst0_none l (fun j hj => HZ.out j (by omega))]; rfl, rfl⟩

end Go.Proofs.YtnncmaegmlaabaaGreatDoor
