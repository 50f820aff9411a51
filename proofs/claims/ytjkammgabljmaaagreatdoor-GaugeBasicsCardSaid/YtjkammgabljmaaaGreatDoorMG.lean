/-
  Contract of gauge.Draw. Conditions: a key from 1 to 2147483646 and a length from 0 to 256.
  Contract of the statements' Draw. Conditions: a key from 1 to 2147483646 and a length from 0 to 256.
  gauge.Draw at a key or a length that is refused.
  Contract of ratios.CommonDivisor. Condition: a list of at most 100 integers of 64 bits.
-/
import Derived.Test.YtjkammgabljmaaaGreatDoorProg
import Derived.Test.YtjkammgabljmaaaGreatDoorK5
import Derived.BigRegion
import Derived.WalkKit
import Derived.BigQuiet

namespace Go.Proofs.YtjkammgabljmaaaGreatDoor
open Go.RowKit

def lcg (x : Int) : Int := 742938285 * x % 2147483647
def swp2 (l : List Int) (i j : Nat) : List Int := (l.set i (l.getD j 0)).set j (l.getD i 0)
/-- The list and the number behind so many steps of a draw. -/
def drS (key : Int) (n : Nat) : Nat → List Int × Int
  | 0 => ((List.range n).map fun j : Nat => (j : Int), key)
  | m + 1 => (swp2 (drS key n m).1 (n - 1 - m) (lcg (drS key n m).2 % (((n - 1 - m : Nat) : Int) + 1)).toNat, lcg (drS key n m).2)
def drawL (key : Int) (n : Nat) : List Int := (drS key n (n - 1)).1
theorem lcg_ok {x : Int} : 0 ≤ lcg x ∧ lcg x < 2147483647 := by
  unfold lcg
  omega
theorem drS_ok (key : Int) (n : Nat) (h : 0 ≤ key ∧ key < 2147483647) : ∀ m, (drS key n m).1.length = n ∧ 0 ≤ (drS key n m).2 ∧ (drS key n m).2 < 2147483647
  | 0 => by simp [drS]; exact h
  | m + 1 => by
    obtain ⟨h1, h2⟩ := drS_ok key n h m
    exact ⟨by simp [drS, swp2, h1], lcg_ok⟩
def idL (n k : Nat) : List Int := (List.range n).map fun j : Nat => if j < k then (j : Int) else 0
theorem idL_zero (n : Nat) : (idL n 0).map (Value.int .i64) = List.replicate n (Value.int .i64 0) := by
  apply List.ext_getElem
  · simp [idL]
  · intro i h1 h2
    simp [idL]
theorem idL_all (n : Nat) : idL n n = (List.range n).map fun j : Nat => (j : Int) := by
  apply List.ext_getElem
  · simp [idL]
  · intro i h1 h2
    simp [idL] at h1 ⊢
    intro h
    omega
theorem idL_step (n k : Nat) : ((idL n k).map (Value.int .i64)).set k (.int .i64 k) = (idL n (k + 1)).map (Value.int .i64) := by
  apply List.ext_getElem
  · simp [idL]
  · intro i h1 h2
    simp only [idL, List.map_map, List.getElem_set, List.getElem_map, List.getElem_range, Function.comp]
    by_cases e : k = i
    · subst e
      rw [if_pos rfl, if_pos (by omega)]
    · rw [if_neg e]
      simp only [show (i < k + 1) = (i < k) from propext ⟨fun _ => by omega, fun _ => by omega⟩]

set_option maxRecDepth 1000000 in
set_option maxHeartbeats 4000000 in
theorem draw_ok (key : Int) (n : Nat) (w : World) (hk : 1 ≤ key ∧ key ≤ 2147483646) (hn : n ≤ 256) :
    Calls Tryz.prog 8 #[.int .i64 key, .int .i64 n] w fun e w' => ∃ v, e = .returned (.tuple #[v, .int .i64 0]) ∧ w'.ownsRow w.heap.size 3 1 v n ((drawL key n).map (Value.int .i64)) ∧ Below w.heap.size w w' := by
  obtain ⟨i0, hi, hz0, hz1, hz2⟩ := info_parts intInfo
  have hr1 := hd (show rng key 1 2147483646 = 0 by unfold rng; rw [if_pos hk])
  have hr2 := hd (show rng (n : Int) 0 256 = 0 by unfold rng; rw [if_pos ⟨by omega, by omega⟩])
  have hz := hd (show fst0 [0, 0] = 0 by simp [fst0])
  have HBY := hd (show i0.bytes * n ≤ 281474976710656 by rw [hz2]; omega)
  have HMX := hd (show n ≤ maxLen by unfold maxLen; omega)
  have HK := hd hk
  clear hk
  go_enter Tryz.func8, Tryz.ntmps8
  go_wp2_with fail
  refine (rng_any _ _ _ _).mono ?_
  rintro e w' ⟨rfl, rfl⟩
  rw [hr1.out]
  go_wp2_with fail
  refine (rng_any _ _ _ _).mono ?_
  rintro e w' ⟨rfl, rfl⟩
  rw [hr2.out]
  go_wp2_with fail
  refine (first2 _ _ _ _).mono ?_
  rintro e w' ⟨rfl, rfl⟩
  rw [hz.out]
  go_wp2_with (at_make; refine wpList_make_full _ rfl (.tmp 21) (.tmp 21) 26 rfl w.heap.size 3 i0 (.int .i64 0) 1 Tryz.underlying26 hi hz0 hz1 .i64 .i64 (n : Int) (n : Int) n rfl rfl rfl rfl HBY.out HMX.out (by simp) ?_; intro w5 hown5 hgrow5; have HO5 := hd (And.intro hown5 hgrow5); clear hown5 hgrow5)
  have hsz := hd (World.size_alloc w (.cells #[.int .i64 0, .int .i64 0] 27))
  have HO0 := hd (show w5.ownsRow w.heap.size 3 1 (.slice (some ⟨w.heap.size + 1, 0, none⟩) n n) n ((idL n 0).map (Value.int .i64)) ∧ Below w.heap.size w w5 from by
    obtain ⟨h1, h2⟩ := HO5.out
    rw [hsz.out] at h1
    refine ⟨?_, ((Below.refl _ w).alloc (Nat.le_refl _) _).grown h2 (by simp) (fun _ h => by cases h)⟩
    rw [idL_zero]
    have e : (madeCells (Value.int .i64 0).cells (n * 1)).toList = List.replicate n (Value.int .i64 0) := by
      rw [show (Value.int .i64 0).cells = #[Value.int .i64 0] from rfl, toList_madeCells_one]; simp
    rw [← e]; exact h1)
  clear HO5
  go_loopw [24] (fun i wr => ∃ k : Nat, k ≤ n ∧ i = .int .i64 k ∧ Hid (wr.ownsRow w.heap.size 3 1 (.slice (some ⟨w.heap.size + 1, 0, none⟩) n n) n ((idL n k).map (Value.int .i64)) ∧ Below w.heap.size w wr)) (fun i _ => n - (intOf i).toNat)
  case atStart => exact ⟨0, Nat.zero_le _, rfl, HO0⟩
  case round =>
    obtain ⟨k, hk, rfl, HI⟩ := hrel
    by_cases hlt : k < n
    · have q1 := HI.out.1.cellAt k (by omega)
      have q2 := HI.out.1.frozenAt k
      rw [show ((idL n k).map (Value.int .i64))[k]? = some (.int .i64 0) by simp [idL, hlt]] at q1
      have HS := hd (And.intro (idL_step n k ▸ (HI.out.1.stored k (.int .i64 k)).1) (HI.out.2.setCell (p := ⟨w.heap.size + 1, k, none⟩) (by show w.heap.size ≤ w.heap.size + 1; omega) (.int .i64 (k : Int))))
      have hki : (k : Int) < (n : Int) := by omega
      go_wp2
      go_roundw
      case rel => exact ⟨k + 1, by omega, by go_num, hd HS.out⟩
      case measure => simp [intOf]; omega
    · obtain rfl : k = n := by omega
      have HJ := hd (show wr.ownsRow w.heap.size 3 1 (.slice (some ⟨w.heap.size + 1, 0, none⟩) k k) k ((drS key k 0).1.map (Value.int .i64)) ∧ Below w.heap.size w wr by rw [show (drS key k 0).1 = idL k k from (idL_all k).symm]; exact HI.out)
      clear HI HO0
      go_wp2
      go_loopw [9, 10] (fun x i wr => ∃ m : Nat, m ≤ k - 1 ∧ x = .int .i64 (drS key k m).2 ∧ i = .int .i64 ((k : Int) - 1 - m) ∧ Hid (wr.ownsRow w.heap.size 3 1 (.slice (some ⟨w.heap.size + 1, 0, none⟩) k k) k ((drS key k m).1.map (Value.int .i64)) ∧ Below w.heap.size w wr)) (fun _ i _ => (intOf i).toNat)
      case atStart => exact ⟨0, Nat.zero_le _, rfl, by simp, HJ⟩
      case round =>
        obtain ⟨m, hm, rfl, rfl, HI⟩ := hrel
        by_cases hlt : m < k - 1
        · obtain ⟨I, hI⟩ : ∃ I : Nat, I = k - 1 - m := ⟨_, rfl⟩
          rw [show (k : Int) - 1 - m = (I : Int) by omega]
          have hI1 : (1 : Int) ≤ (I : Int) := by omega
          have hIk : I < k := by omega
          obtain ⟨x, hx⟩ : ∃ x, x = (drS key k m).2 := ⟨_, rfl⟩
          rw [← hx]
          have hb := drS_ok key k ⟨by have := HK.out; omega, by have := HK.out; omega⟩ m
          rw [← hx] at hb
          obtain ⟨hlen, hx0, hx1⟩ := hb
          have HX := hd hx
          have HI2 := hd hI
          have hl := @lcg_ok x
          clear hx hI
          go_wp2_with fail
          obtain ⟨J, hJ⟩ : ∃ J : Nat, (J : Int) = lcg x % ((I : Int) + 1) := ⟨(lcg x % ((I : Int) + 1)).toNat, Int.toNat_of_nonneg (Int.emod_nonneg _ (by omega))⟩
          have hJI : J ≤ I := by have := Int.emod_lt_of_pos (lcg x) (show (0 : Int) < (I : Int) + 1 by omega); omega
          rw [show 742938285 * x % 2147483647 % ((I : Int) + 1) = (J : Int) from hJ.symm, show 742938285 * x % 2147483647 = lcg x from rfl]
          have q0 := HI.out.1.cellAt I (by omega)
          have q1 := HI.out.1.cellAt J (by omega)
          have f0 := HI.out.1.frozenAt I
          have f1 := HI.out.1.frozenAt J
          obtain ⟨lI, hlI⟩ : ∃ v, v = (drS key k m).1.getD I 0 := ⟨_, rfl⟩
          obtain ⟨lJ, hlJ⟩ : ∃ v, v = (drS key k m).1.getD J 0 := ⟨_, rfl⟩
          rw [show ((drS key k m).1.map (Value.int .i64))[I]? = some (.int .i64 lI) by rw [hlI]; simp [show I < (drS key k m).1.length by omega]] at q0
          rw [show ((drS key k m).1.map (Value.int .i64))[J]? = some (.int .i64 lJ) by rw [hlJ]; simp [show J < (drS key k m).1.length by omega]] at q1
          have HSW := hd (show ((wr.setCell ⟨w.heap.size + 1, I, none⟩ (.int .i64 lJ)).setCell ⟨w.heap.size + 1, J, none⟩ (.int .i64 lI)).ownsRow w.heap.size 3 1 (.slice (some ⟨w.heap.size + 1, 0, none⟩) k k) k ((drS key k (m + 1)).1.map (Value.int .i64)) from by
            have h := ((HI.out.1.stored I (.int .i64 lJ)).1.stored J (.int .i64 lI)).1
            have e : (drS key k (m + 1)).1 = ((drS key k m).1.set I lJ).set J lI := by
              show swp2 _ (k - 1 - m) (lcg (drS key k m).2 % (((k - 1 - m : Nat) : Int) + 1)).toNat = _
              rw [← HI2.out, ← HX.out, ← hJ, hlI, hlJ]
              rfl
            rw [e, List.map_set, List.map_set]
            exact h)
          have HBW := hd ((HI.out.2.setCell (p := ⟨w.heap.size + 1, I, none⟩) (by show w.heap.size ≤ w.heap.size + 1; omega) (.int .i64 lJ)).setCell (p := ⟨w.heap.size + 1, J, none⟩) (by show w.heap.size ≤ w.heap.size + 1; omega) (.int .i64 lI))
          have hIk' : (I : Int) < (k : Int) := by omega
          have hJk' : (J : Int) < (k : Int) := by omega
          have HX2 := hd (show lcg x = (drS key k (m + 1)).2 by show lcg x = lcg (drS key k m).2; rw [HX.out])
          have HI3 := hd (show (I : Int) - 1 = (k : Int) - 1 - ((m + 1 : Nat) : Int) by have := HI2.out; omega)
          clear hlI hlJ hJ hlen
          by_cases hIJ : I = J
          · subst hIJ
            have e : lJ = lI := by have := q1.symm.trans q0; simpa using this
            subst e
            go_big_region
            go_wp2
            go_roundw
            case rel => exact ⟨m + 1, by omega, by rw [HX2.out], by rw [HI3.out], hd ⟨HSW.out.drew, HBW.out.drew⟩⟩
            case measure => simp [intOf]; omega
          · have hJI2 : J ≠ I := fun e => hIJ e.symm
            go_big_region
            go_wp2
            go_roundw
            case rel => exact ⟨m + 1, by omega, by rw [HX2.out], by rw [HI3.out], hd ⟨HSW.out.drew, HBW.out.drew⟩⟩
            case measure => simp [intOf]; omega
        · obtain rfl : m = k - 1 := by omega
          have hend : ¬((1 : Int) ≤ (k : Int) - 1 - ((k - 1 : Nat) : Int)) := by omega
          go_wp2
          go_returns
          exact ⟨_, rfl, HI.out.1, HI.out.2⟩
end Go.Proofs.YtjkammgabljmaaaGreatDoor

namespace Go.Proofs.YtjkammgabljmaaaGreatDoor
open Go.RowKit

set_option maxRecDepth 1000000 in
set_option maxHeartbeats 4000000 in
theorem refDraw_ok (key : Int) (n : Nat) (w : World) (hk : 1 ≤ key ∧ key ≤ 2147483646) (hn : n ≤ 256) :
    Calls Tryz.prog 11 #[.int .i64 key, .int .i64 n] w fun e w' => ∃ v, e = .returned v ∧ w'.ownsRow w.heap.size 3 1 v n ((drawL key n).map (Value.int .i64)) ∧ Below w.heap.size w w' := by
  obtain ⟨i0, hi, hz0, hz1, hz2⟩ := info_parts intInfo
  have HBY := hd (show i0.bytes * n ≤ 281474976710656 by rw [hz2]; omega)
  have HMX := hd (show n ≤ maxLen by unfold maxLen; omega)
  have HK := hd hk
  clear hk
  go_enter Tryz.func11, Tryz.ntmps11
  go_wp2_with (at_make; refine wpList_make_full _ rfl (.tmp 10) (.tmp 10) 26 rfl w.heap.size 3 i0 (.int .i64 0) 1 Tryz.underlying26 hi hz0 hz1 .i64 .i64 (n : Int) (n : Int) n rfl rfl rfl rfl HBY.out HMX.out (Nat.le_refl _) ?_; intro w5 hown5 hgrow5; have HO5 := hd (And.intro hown5 hgrow5); clear hown5 hgrow5)
  have HO0 := hd (show w5.ownsRow w.heap.size 3 1 (.slice (some ⟨w.heap.size, 0, none⟩) n n) n ((idL n 0).map (Value.int .i64)) ∧ Below w.heap.size w w5 from by
    obtain ⟨h1, h2⟩ := HO5.out
    refine ⟨?_, (Below.refl _ w).grown h2 (Nat.le_refl _) (fun _ h => by cases h)⟩
    rw [idL_zero]
    have e : (madeCells (Value.int .i64 0).cells (n * 1)).toList = List.replicate n (Value.int .i64 0) := by
      rw [show (Value.int .i64 0).cells = #[Value.int .i64 0] from rfl, toList_madeCells_one]; simp
    rw [← e]; exact h1)
  clear HO5
  go_loopw [6] (fun i wr => ∃ k : Nat, k ≤ n ∧ i = .int .i64 k ∧ Hid (wr.ownsRow w.heap.size 3 1 (.slice (some ⟨w.heap.size, 0, none⟩) n n) n ((idL n k).map (Value.int .i64)) ∧ Below w.heap.size w wr)) (fun i _ => n - (intOf i).toNat)
  case atStart => exact ⟨0, Nat.zero_le _, rfl, HO0⟩
  case round =>
    obtain ⟨k, hk, rfl, HI⟩ := hrel
    by_cases hlt : k < n
    · have q1 := HI.out.1.cellAt k (by omega)
      have q2 := HI.out.1.frozenAt k
      rw [show ((idL n k).map (Value.int .i64))[k]? = some (.int .i64 0) by simp [idL, hlt]] at q1
      have HS := hd (And.intro (idL_step n k ▸ (HI.out.1.stored k (.int .i64 k)).1) (HI.out.2.setCell (p := ⟨w.heap.size, k, none⟩) (Nat.le_refl w.heap.size) (.int .i64 (k : Int))))
      have hki : (k : Int) < (n : Int) := by omega
      go_wp2
      go_roundw
      case rel => exact ⟨k + 1, by omega, by go_num, hd HS.out⟩
      case measure => simp [intOf]; omega
    · obtain rfl : k = n := by omega
      have HJ := hd (show wr.ownsRow w.heap.size 3 1 (.slice (some ⟨w.heap.size, 0, none⟩) k k) k ((drS key k 0).1.map (Value.int .i64)) ∧ Below w.heap.size w wr by rw [show (drS key k 0).1 = idL k k from (idL_all k).symm]; exact HI.out)
      clear HI HO0
      go_wp2
      go_loopw [7, 8] (fun x i wr => ∃ m : Nat, m ≤ k - 1 ∧ x = .int .i64 (drS key k m).2 ∧ i = .int .i64 ((k : Int) - 1 - m) ∧ Hid (wr.ownsRow w.heap.size 3 1 (.slice (some ⟨w.heap.size, 0, none⟩) k k) k ((drS key k m).1.map (Value.int .i64)) ∧ Below w.heap.size w wr)) (fun _ i _ => (intOf i).toNat)
      case atStart => exact ⟨0, Nat.zero_le _, rfl, by simp, HJ⟩
      case round =>
        obtain ⟨m, hm, rfl, rfl, HI⟩ := hrel
        by_cases hlt : m < k - 1
        · obtain ⟨I, hI⟩ : ∃ I : Nat, I = k - 1 - m := ⟨_, rfl⟩
          rw [show (k : Int) - 1 - m = (I : Int) by omega]
          have hI1 : (0 : Int) < (I : Int) := by omega
          have hIk : I < k := by omega
          obtain ⟨x, hx⟩ : ∃ x, x = (drS key k m).2 := ⟨_, rfl⟩
          rw [← hx]
          have hb := drS_ok key k ⟨by have := HK.out; omega, by have := HK.out; omega⟩ m
          rw [← hx] at hb
          obtain ⟨hlen, hx0, hx1⟩ := hb
          have HX := hd hx
          have HI2 := hd hI
          have hl := @lcg_ok x
          clear hx hI
          go_wp2_with fail
          obtain ⟨J, hJ⟩ : ∃ J : Nat, (J : Int) = lcg x % ((I : Int) + 1) := ⟨(lcg x % ((I : Int) + 1)).toNat, Int.toNat_of_nonneg (Int.emod_nonneg _ (by omega))⟩
          have hJI : J ≤ I := by have := Int.emod_lt_of_pos (lcg x) (show (0 : Int) < (I : Int) + 1 by omega); omega
          rw [show 742938285 * x % 2147483647 % ((I : Int) + 1) = (J : Int) from hJ.symm, show 742938285 * x % 2147483647 = lcg x from rfl]
          have q0 := HI.out.1.cellAt I (by omega)
          have q1 := HI.out.1.cellAt J (by omega)
          have f0 := HI.out.1.frozenAt I
          have f1 := HI.out.1.frozenAt J
          obtain ⟨lI, hlI⟩ : ∃ v, v = (drS key k m).1.getD I 0 := ⟨_, rfl⟩
          obtain ⟨lJ, hlJ⟩ : ∃ v, v = (drS key k m).1.getD J 0 := ⟨_, rfl⟩
          rw [show ((drS key k m).1.map (Value.int .i64))[I]? = some (.int .i64 lI) by rw [hlI]; simp [show I < (drS key k m).1.length by omega]] at q0
          rw [show ((drS key k m).1.map (Value.int .i64))[J]? = some (.int .i64 lJ) by rw [hlJ]; simp [show J < (drS key k m).1.length by omega]] at q1
          have HSW := hd (show ((wr.setCell ⟨w.heap.size, I, none⟩ (.int .i64 lJ)).setCell ⟨w.heap.size, J, none⟩ (.int .i64 lI)).ownsRow w.heap.size 3 1 (.slice (some ⟨w.heap.size, 0, none⟩) k k) k ((drS key k (m + 1)).1.map (Value.int .i64)) from by
            have h := ((HI.out.1.stored I (.int .i64 lJ)).1.stored J (.int .i64 lI)).1
            have e : (drS key k (m + 1)).1 = ((drS key k m).1.set I lJ).set J lI := by
              show swp2 _ (k - 1 - m) (lcg (drS key k m).2 % (((k - 1 - m : Nat) : Int) + 1)).toNat = _
              rw [← HI2.out, ← HX.out, ← hJ, hlI, hlJ]
              rfl
            rw [e, List.map_set, List.map_set]
            exact h)
          have HBW := hd ((HI.out.2.setCell (p := ⟨w.heap.size, I, none⟩) (Nat.le_refl w.heap.size) (.int .i64 lJ)).setCell (p := ⟨w.heap.size, J, none⟩) (Nat.le_refl w.heap.size) (.int .i64 lI))
          have hIk' : (I : Int) < (k : Int) := by omega
          have hJk' : (J : Int) < (k : Int) := by omega
          have HX2 := hd (show lcg x = (drS key k (m + 1)).2 by show lcg x = lcg (drS key k m).2; rw [HX.out])
          have HI3 := hd (show (I : Int) - 1 = (k : Int) - 1 - ((m + 1 : Nat) : Int) by have := HI2.out; omega)
          clear hlI hlJ hJ hlen
          by_cases hIJ : I = J
          · subst hIJ
            have e : lJ = lI := by have := q1.symm.trans q0; simpa using this
            subst e
            go_big_region
            go_wp2
            go_roundw
            case rel => exact ⟨m + 1, by omega, by rw [HX2.out], by rw [HI3.out], hd ⟨HSW.out.drew, HBW.out.drew⟩⟩
            case measure => simp [intOf]; omega
          · have hJI2 : J ≠ I := fun e => hIJ e.symm
            go_big_region
            go_wp2
            go_roundw
            case rel => exact ⟨m + 1, by omega, by rw [HX2.out], by rw [HI3.out], hd ⟨HSW.out.drew, HBW.out.drew⟩⟩
            case measure => simp [intOf]; omega
        · obtain rfl : m = k - 1 := by omega
          have hend : ¬((0 : Int) < (k : Int) - 1 - ((k - 1 : Nat) : Int)) := by omega
          go_wp2
          go_returns
          exact ⟨_, rfl, HI.out.1, HI.out.2⟩
end Go.Proofs.YtjkammgabljmaaaGreatDoor

namespace Go.Proofs.YtjkammgabljmaaaGreatDoor
open Go.RowKit

set_option maxRecDepth 1000000 in
theorem draw_bad (key n x : Int) (w : World) (hx : fst0 [rng key 1 2147483646, rng n 0 256] = x) (h0 : ¬x = 0) :
    Calls Tryz.prog 8 #[.int .i64 key, .int .i64 n] w fun e w' => e = .returned (.tuple #[.slice none 0 0, .int .i64 x]) ∧ Below w.heap.size w w' := by
  have HX := hd hx
  clear hx
  go_enter Tryz.func8, Tryz.ntmps8
  go_wp2_with fail
  refine (rng_any _ _ _ _).mono ?_
  rintro e w' ⟨rfl, rfl⟩
  go_wp2_with fail
  refine (rng_any _ _ _ _).mono ?_
  rintro e w' ⟨rfl, rfl⟩
  go_wp2_with fail
  refine (first2 _ _ _ _).mono ?_
  rintro e w' ⟨rfl, rfl⟩
  rw [HX.out]
  have hb := hd ((Below.refl _ w).alloc (Nat.le_refl _) (.cells #[.int .i64 (rng key 1 2147483646), .int .i64 (rng n 0 256)] 27))
  go_wp2
  go_returns
  exact ⟨rfl, hb.out⟩
end Go.Proofs.YtjkammgabljmaaaGreatDoor

namespace Go.Proofs.YtjkammgabljmaaaGreatDoor
open Go.RowKit

def gcdL (l : List Int) : Nat → Nat
  | 0 => 0
  | k + 1 => Nat.gcd (gcdL l k) (l.getD k 0).natAbs
theorem below_drewN {B : Nat} {a w : World} (h : Below B a w) (k : Nat) : Below B a (w.drewN k) := ⟨h.os, h.tape, h.output, h.size, h.block⟩
def in64 (x : Int) : Prop := -9223372036854775808 ≤ x ∧ x ≤ 9223372036854775807
theorem tmod_gcd (o x : Int) : Nat.gcd x.natAbs (Int.tmod o x).natAbs = Nat.gcd o.natAbs x.natAbs := by
  rw [Int.natAbs_tmod, Nat.gcd_comm o.natAbs, Nat.gcd_rec x.natAbs o.natAbs, Nat.gcd_comm]
theorem tmod_lt (o x : Int) (h : x ≠ 0) : (Int.tmod o x).natAbs < x.natAbs := by
  rw [Int.natAbs_tmod]
  exact Nat.mod_lt _ (by omega)
theorem tmod_64 (o x : Int) (h : x ≠ 0) (hx : in64 x) : in64 (Int.tmod o x) := by
  have := tmod_lt o x h
  unfold in64 at *
  omega

set_option maxRecDepth 1000000 in
set_option maxHeartbeats 4000000 in
theorem comDiv_any (sl : Value) (l : List Int) (w : World) (h : Rd w w.heap.size sl l.length (l.map (Value.int .i64))) (hl : l.length ≤ 100) (h64 : ∀ k, k < l.length → in64 (l.getD k 0)) :
    Calls Tryz.prog 59 #[sl] w fun e w' => ∃ g, e = .returned (.int .i64 g) ∧ (gcdL l l.length < 2000000000 → g = (gcdL l l.length : Int)) ∧ Below w.heap.size w w' := by
  have H := hd h
  obtain ⟨A, c, rfl, hc1, hc2, -⟩ := h
  unfold maxLen at hc2
  have H64 := hd h64
  clear h64
  go_enter Tryz.func59, Tryz.ntmps59
  go_wp2
  go_loopw [3, 8] (fun o i wr => ∃ (k : Nat) (v : Int), k ≤ l.length ∧ i = .int .i64 k ∧ o = .int .i64 v ∧ Hid (v.natAbs = gcdL l k ∧ in64 v) ∧ Below w.heap.size w wr) (fun _ i _ => l.length - (intOf i).toNat)
  case atStart => exact ⟨0, 0, Nat.zero_le _, rfl, rfl, hd ⟨rfl, by unfold in64; omega⟩, Below.refl _ _⟩
  case round =>
    obtain ⟨k, v, hk, rfl, rfl, HV, hb⟩ := hrel
    by_cases hlt : k < l.length
    · obtain ⟨A', c', e', -, -, hx⟩ := H.out.below hb (Nat.le_refl _)
      cases e'
      obtain ⟨b, off, rfl, hbb, hcell⟩ := hx (by omega)
      have q := hcell k (by simpa using hlt)
      rw [show (l.map (Value.int .i64))[k]? = some (.int .i64 (l.getD k 0)) by simp [hlt]] at q
      have hki : (k : Int) < (l.length : Int) := by omega
      obtain ⟨y, hy⟩ : ∃ y, y = l.getD k 0 := ⟨_, rfl⟩
      rw [← hy] at q
      have h6 := H64.out k hlt
      rw [← hy] at h6
      have HY := hd (And.intro hy h6)
      have HB := hd hb
      clear hcell hx hy h6 hb
      go_wp2
      go_loopw [3, 5] (fun o x wq => ∃ v x' : Int, o = .int .i64 v ∧ x = .int .i64 x' ∧ Hid (Nat.gcd v.natAbs x'.natAbs = gcdL l (k + 1) ∧ in64 v ∧ in64 x') ∧ Hid (Below w.heap.size w wq)) (fun _ x _ => (intOf x).natAbs)
      case atStart => exact ⟨v, y, rfl, rfl, hd ⟨by show _ = Nat.gcd _ _; rw [HV.out.1, HY.out.1], HV.out.2, HY.out.2⟩, HB⟩
      case round =>
        obtain ⟨v2, x2, rfl, rfl, HI, HB2⟩ := hrel
        by_cases hx : x2 = 0
        · subst hx
          go_wp2
          go_roundw
          case rel => exact ⟨k + 1, v2, by omega, by go_num, rfl, hd ⟨by have := HI.out.1; simpa using this, HI.out.2.1⟩, HB2.out⟩
          case measure => simp [intOf]; omega
        · go_wp2_with fail
          go_quiet (fail)
          go_wp2
          refine ⟨⟨x2, Int.tmod v2 x2, rfl, rfl, hd ⟨by rw [tmod_gcd]; exact HI.out.1, HI.out.2.2, tmod_64 _ _ hx HI.out.2.2⟩, hd (below_drewN HB2.out _)⟩, ?_⟩
          show (Int.tmod v2 x2).natAbs < x2.natAbs
          exact tmod_lt _ _ hx
    · obtain rfl : k = l.length := by omega
      have hv := HV.out.2
      unfold in64 at hv
      by_cases hs : gcdL l l.length < 2000000000
      · have h1 : -2000000000 ≤ v ∧ v ≤ 2000000000 := by have := HV.out.1; omega
        have HE := hd (show max v (-v) = (gcdL l l.length : Int) by have := HV.out.1; omega)
        clear hv
        go_wp2
        go_returns
        exact ⟨_, rfl, fun _ => HE.out, hb⟩
      · go_wp2
        go_returns
        exact ⟨_, rfl, fun h => absurd h hs, hb⟩
end Go.Proofs.YtjkammgabljmaaaGreatDoor
