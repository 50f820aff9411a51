/-
  Contracts of the comparison of floats and of the insertion sort at three floats that are numbers, in a block of cells.
  Contracts of the ballots of gauge.Vote: the level of a vote, and who deviates. Conditions: valid levels, a tolerance.
  Contract of the level of a vote. Conditions: valid levels, a tolerance.
  The ballots of three records: plain words, and the contract. Conditions: three valid records with the same number of levels.
-/
import Derived.Test.YtkgkpcmokmhakaaGreatDoorProg
import Derived.Test.YtkgkpcmokmhakaaGreatDoorMK
import Derived.Test.YtkgkpcmokmhakaaGreatDoorME
import Derived.Test.YtkgkpcmokmhakaaGreatDoorShelfB
import Derived.BigRegion
import Derived.WalkKit
import Derived.Maps.AppendAt
import Derived.BigRegionIn

namespace Go.Proofs.YtkgkpcmokmhakaaGreatDoor
open Go.RowKit Go.Shelf
attribute [local go_sem] Oper.semAt_some

theorem order_self {a : Nat} (ha : isNum a = true) : FloatKind.f32.format.order a a = some .eq := by
  unfold isNum at ha
  show (FloatKind.f32.decode a).order (FloatKind.f32.decode a) = some .eq
  cases h1 : FloatKind.f32.decode a <;> rw [h1] at ha <;> simp_all [Ieee.Datum.order]
def fls (a b : Nat) : Bool := FloatKind.f32.format.order a b == some .lt

theorem isnan_num (x : Nat) (h : isNum x = true) (w : World) : Calls Tryz.prog 160 #[.float .f32 x] w fun e w' => e = .returned (.bool false) ∧ w = w' := by
  have HX := hd (show (FloatKind.f32.format.order x x != some .eq) = false by rw [order_self h]; rfl)
  go_enter Tryz.func160, Tryz.ntmps160
  go_wp2
  go_ret
  exact ⟨congrArg (fun b => Ending.returned (.bool b)) HX.out, rfl⟩

theorem less_num (x y : Nat) (hx : isNum x = true) (w : World) : Calls Tryz.prog 140 #[.float .f32 x, .float .f32 y] w fun e w' => e = .returned (.bool (fls x y)) ∧ w = w' := by
  have HX := hd hx
  clear hx
  go_enter Tryz.func140, Tryz.ntmps140
  go_wp2_with (go_at_call 160; refine (isnan_num _ HX.out _).mono ?_; rintro e w' ⟨rfl, rfl⟩)
  go_ret
  exact ⟨rfl, rfl⟩

/-- One swap, one insertion, and what is left to do. -/
def swp (t : Nat → Nat) (m : Nat) : Nat → Nat := fun i => if i = m then t (m - 1) else if i = m - 1 then t m else t i
def inr : Nat → (Nat → Nat) → (Nat → Nat)
  | 0, t => t
  | m + 1, t => if fls (t (m + 1)) (t m) then inr m (swp t (m + 1)) else t
def fin3 (k : Nat) (t : Nat → Nat) : Nat → Nat := if k = 1 then inr 2 (inr 1 t) else if k = 2 then inr 2 t else t
theorem fin3_step {k : Nat} (t : Nat → Nat) (h1 : 1 ≤ k) (h2 : k < 3) : fin3 k t = fin3 (k + 1) (inr k t) := by
  rcases (show k = 1 ∨ k = 2 by omega) with rfl | rfl <;> rfl
def C3 (t : Nat → Nat) (k0 k1 k2 : Value) : Array Value := #[.float .f32 (t 0), .float .f32 (t 1), .float .f32 (t 2), k0, k1, k2]
theorem C3_at (t : Nat → Nat) (k0 k1 k2 : Value) {m : Nat} (h : m < 3) : (C3 t k0 k1 k2)[m]? = some (.float .f32 (t m)) := by
  rcases (show m = 0 ∨ m = 1 ∨ m = 2 by omega) with rfl | rfl | rfl <;> rfl
theorem C3_swp (t : Nat → Nat) (k0 k1 k2 : Value) {m : Nat} (h : m + 1 < 3) : ((C3 t k0 k1 k2).setIfInBounds (m + 1) (.float .f32 (t m))).setIfInBounds m (.float .f32 (t (m + 1))) = C3 (swp t (m + 1)) k0 k1 k2 := by
  rcases (show m = 0 ∨ m = 1 by omega) with rfl | rfl <;> simp [C3, swp]
theorem swp_num {t : Nat → Nat} {m : Nat} (h : m + 1 < 3) (ht : ∀ i, i < 3 → isNum (t i) = true) : ∀ i, i < 3 → isNum (swp t (m + 1) i) = true := by
  intro i hi
  unfold swp
  split
  · exact ht _ (by omega)
  · split
    · exact ht _ (by omega)
    · exact ht _ hi
set_option maxRecDepth 1000000 in
set_option maxHeartbeats 8000000 in
theorem ins3_any (g : Nat) (T : TypeId) (k0 k1 k2 : Value) (t0 : Nat → Nat) (hn : ∀ i, i < 3 → isNum (t0 i) = true) (w : World) (h : w.heap[g]? = some (.cells (C3 t0 k0 k1 k2) T (0, 0))) :
    Calls Tryz.prog 134 #[.slice (some ⟨g, 0, none⟩) 3 3, .int .i64 0, .int .i64 3] w fun e w' => e = .returned (.tuple #[]) ∧ w'.heap[g]? = some (.cells (C3 (fin3 1 t0) k0 k1 k2) T (0, 0)) ∧ Below g w w' := by
  have HN := hd hn
  have H0 := hd h
  have hg := blk_lt h
  clear hn h
  go_enter Tryz.func134, Tryz.ntmps134
  go_wp2
  go_loopw [6] (fun i wr => ∃ (k : Nat) (t : Nat → Nat), 1 ≤ k ∧ k ≤ 3 ∧ i = .int .i64 k ∧ Hid (wr.heap[g]? = some (.cells (C3 t k0 k1 k2) T (0, 0)) ∧ Below g w wr ∧ fin3 k t = fin3 1 t0 ∧ ∀ i, i < 3 → isNum (t i) = true)) (fun i _ => 3 - (intOf i).toNat)
  case atStart => exact ⟨1, t0, by omega, by omega, rfl, ⟨H0.out, Below.refl _ _, rfl, HN.out⟩⟩
  case round =>
    obtain ⟨k, t, hk1, hk2, rfl, HT⟩ := hrel
    by_cases hlt : k < 3
    · have hlt' : decide ((k : Int) < 3) = true := by simp; omega
      go_wp2
      go_loopw [7] (fun j wq => ∃ (m : Nat) (u : Nat → Nat), m ≤ k ∧ j = .int .i64 m ∧ Hid (wq.heap[g]? = some (.cells (C3 u k0 k1 k2) T (0, 0)) ∧ Below g w wq ∧ inr m u = inr k t ∧ ∀ i, i < 3 → isNum (u i) = true)) (fun j _ => (intOf j).toNat)
      case atStart => exact ⟨k, t, Nat.le_refl _, rfl, ⟨HT.out.1, HT.out.2.1, rfl, HT.out.2.2.2⟩⟩
      case round =>
        obtain ⟨m, u, hm, rfl, HU⟩ := hrel
        obtain ⟨hu, hB, -, hun⟩ := HU.out
        cases m with
        | zero =>
          have hd0 : decide (((0 : Nat) : Int) > 0) = false := by decide
          go_wp2_with fail
          refine wp_region_bw_tail 14 (by kernel_rfl) (by kernel_rfl) ?_
          simp only [List.take_succ_cons, List.take_zero, List.drop_succ_cons, List.drop_zero]
          repeat (first | go_big_quiet_step (fail))
          refine wpQuiet_nil ?_
          rintro ⟨W2, hB2⟩
          change wpList _ _ _ _ _ W2
          have HW := hd (show W2.heap[g]? = some (.cells (C3 u k0 k1 k2) T (0, 0)) ∧ Below g w W2 from ⟨(hB2.block _ (blk_lt hu)).trans hu, hB.trans (hB2.mono (Nat.le_of_lt (blk_lt hu)))⟩)
          clear hu hB hB2 hun
          go_wp2
          go_roundw
          case rel => exact ⟨k + 1, u, by omega, by omega, by go_num, ⟨HW.out.1, HW.out.2, by rw [← HT.out.2.2.1, fin3_step t hk1 hlt, ← HU.out.2.2.1]; rfl, HU.out.2.2.2⟩⟩
          case measure => simp [intOf]; omega
        | succ m =>
          have hm3 : m + 1 < 3 := by omega
          have hd1 : decide (((m + 1 : Nat) : Int) > 0) = true := by simp
          have F1 : ∀ p : Bw wr, p.out.cell? ⟨g, m + 1, none⟩ = some (.float .f32 (u (m + 1))) := fun p => p.cell (blk_lt hu) ((blk_cell hu (m + 1)).trans (C3_at u k0 k1 k2 hm3))
          have F0 : ∀ p : Bw wr, p.out.cell? ⟨g, m, none⟩ = some (.float .f32 (u m)) := fun p => p.cell (blk_lt hu) ((blk_cell hu m).trans (C3_at u k0 k1 k2 (by omega)))
          have HL := hd (less_num (u (m + 1)) (u m) (hun _ hm3))
          have HI := hd (HU.out.2.2.1)
          cases hf : fls (u (m + 1)) (u m)
          · rw [hf] at HL
            have HF := hd hf
            clear hu hB hun hf
            go_wp2_with fail
            refine wp_region_bw_tail 14 (by kernel_rfl) (by kernel_rfl) ?_
            simp only [List.take_succ_cons, List.take_zero, List.drop_succ_cons, List.drop_zero]
            repeat (first | go_big_quiet_step (first | (go_at_call 140; exact Bw.pure _ (HL.out _))))
            refine wpQuiet_nil ?_
            rintro ⟨W2, hB2⟩
            change wpList _ _ _ _ _ W2
            have HW := hd (show W2.heap[g]? = some (.cells (C3 u k0 k1 k2) T (0, 0)) ∧ Below g w W2 from ⟨(hB2.block _ (blk_lt HU.out.1)).trans HU.out.1, HU.out.2.1.trans (hB2.mono (Nat.le_of_lt (blk_lt HU.out.1)))⟩)
            clear F0 F1 hB2
            go_wp2
            go_roundw
            case rel => exact ⟨k + 1, u, by omega, by omega, by go_num, ⟨HW.out.1, HW.out.2, by rw [← HT.out.2.2.1, fin3_step t hk1 hlt, ← HI.out]; simp [inr, HF.out], HU.out.2.2.2⟩⟩
            case measure => simp [intOf]; omega
          rw [hf] at HL
          have HF := hd hf
          clear hu hB hun hf
          go_wp2_with fail
          refine wp_region_bw_tail 14 (by kernel_rfl) (by kernel_rfl) ?_
          simp only [List.take_succ_cons, List.take_zero, List.drop_succ_cons, List.drop_zero]
          repeat (first | go_big_quiet_step (first | (go_at_call 140; exact Bw.pure _ (HL.out _))))
          refine wpQuiet_nil ?_
          rintro ⟨W2, hB2⟩
          change wpList _ _ _ _ _ W2
          have hu2 : W2.heap[g]? = some (.cells (C3 u k0 k1 k2) T (0, 0)) := (hB2.block _ (blk_lt HU.out.1)).trans HU.out.1
          have hg2 := blk_lt hu2
          have HW := hd (HU.out.2.1.trans (hB2.mono (Nat.le_of_lt (blk_lt HU.out.1))))
          clear F0 F1 hB2
          go_wp2_with fail
          have x1 := (blk_cell hu2 (m + 1)).trans (C3_at u k0 k1 k2 hm3)
          have x0 := (blk_cell hu2 m).trans (C3_at u k0 k1 k2 (show m < 3 by omega))
          have f1 := blk_frozen hu2 (m + 1)
          have f0 := blk_frozen hu2 m
          have HU2 := hd hu2
          clear hu2
          go_big_region
          go_wp2
          go_roundw
          case rel => exact ⟨m, swp u (m + 1), by omega, rfl, ⟨by rw [← C3_swp u k0 k1 k2 hm3]; exact blk_set (blk_set HU2.out (m + 1) (.float .f32 (u m))) m (.float .f32 (u (m + 1))), ((HW.out.setCell (p := ⟨g, m + 1, none⟩) (Nat.le_refl _) (.float .f32 (u m))).setCell (p := ⟨g, m, none⟩) (Nat.le_refl _) (.float .f32 (u (m + 1)))).drew, by rw [← HI.out]; simp [inr, HF.out], swp_num hm3 HU.out.2.2.2⟩⟩
          case measure => simp [intOf]
    · go_wp2
      obtain rfl : k = 3 := by omega
      go_end0
      have := HT.out.2.2.1
      exact ⟨rfl, by rw [← this]; exact HT.out.1, HT.out.2.1⟩

set_option maxRecDepth 1000000 in
set_option maxHeartbeats 8000000 in
theorem pdq3_any (g : Nat) (T : TypeId) (k0 k1 k2 : Value) (t0 : Nat → Nat) (hn : ∀ i, i < 3 → isNum (t0 i) = true) (n : Int) (w : World) (h : w.heap[g]? = some (.cells (C3 t0 k0 k1 k2) T (0, 0))) :
    Calls Tryz.prog 117 #[.slice (some ⟨g, 0, none⟩) 3 3, .int .i64 0, .int .i64 3, .int .i64 n] w fun e w' => e = .returned (.tuple #[]) ∧ w'.heap[g]? = some (.cells (C3 (fin3 1 t0) k0 k1 k2) T (0, 0)) ∧ Below g w w' := by
  have HC := hd (ins3_any g T k0 k1 k2 t0 hn w h)
  clear hn h
  go_enter Tryz.func117, Tryz.ntmps117
  go_wp2
  go_loopw [1, 2] (fun a b wr => a = .int .i64 0 ∧ b = .int .i64 3 ∧ wr = w) (fun _ _ _ => 0)
  case atStart => exact ⟨rfl, rfl, rfl⟩
  case round =>
    obtain ⟨rfl, rfl, rfl⟩ := hrel
    go_wp2_with (go_at_call 134; refine HC.out.mono ?_; rintro e w' ⟨rfl, h1, h2⟩)
    refine bodyPost_ret (results_none rfl _ _ _) rfl ?_
    exact ⟨rfl, h1, h2⟩

theorem sort3_any (g : Nat) (T : TypeId) (k0 k1 k2 : Value) (t0 : Nat → Nat) (hn : ∀ i, i < 3 → isNum (t0 i) = true) (w : World) (h : w.heap[g]? = some (.cells (C3 t0 k0 k1 k2) T (0, 0))) :
    Calls Tryz.prog 87 #[.slice (some ⟨g, 0, none⟩) 3 3] w fun e w' => e = .returned (.tuple #[]) ∧ w'.heap[g]? = some (.cells (C3 (fin3 1 t0) k0 k1 k2) T (0, 0)) ∧ Below g w w' := by
  have HC := hd (fun n => pdq3_any g T k0 k1 k2 t0 hn n w h)
  clear hn h
  go_enter Tryz.func87, Tryz.ntmps87
  go_wp2_with (first | (go_at_call 118; refine (Tryz.bits_Len 3 _ (by decide) (by decide)).mono ?_; rintro e w' ⟨rfl, rfl⟩) | (go_at_call 117; refine (HC.out _).mono ?_; rintro e w' ⟨rfl, h1, h2⟩))
  go_end0
  exact ⟨rfl, h1, h2⟩
end Go.Proofs.YtkgkpcmokmhakaaGreatDoor

namespace Go.Proofs.YtkgkpcmokmhakaaGreatDoor
open Go.RowKit Go.Shelf
attribute [local go_sem] Oper.semAt_some

/-- A ballot, as a value. -/
def balV (x : Nat → Nat) (k : Nat → Bool) : Value := .agg #[.float .f32 (x 0), .float .f32 (x 1), .float .f32 (x 2), .bool (k 0), .bool (k 1), .bool (k 2)]
/-- The levels that are there, up to an index. -/
def thr (x : Nat → Nat) (k : Nat → Bool) (n : Nat) : List Nat := ((List.range n).filter k).map x
theorem thr_yes {x : Nat → Nat} {k : Nat → Bool} {n : Nat} (h : k n = true) : thr x k (n + 1) = thr x k n ++ [x n] := by simp [thr, List.range_succ, h]
theorem thr_no {x : Nat → Nat} {k : Nat → Bool} {n : Nat} (h : k n = false) : thr x k (n + 1) = thr x k n := by simp [thr, List.range_succ, h]
theorem thr_len (x : Nat → Nat) (k : Nat → Bool) (n : Nat) : (thr x k n).length ≤ n := by
  unfold thr; rw [List.length_map]; exact Nat.le_trans (List.length_filter_le _ _) (by simp)
/-- The distance of two levels in sixteenths. -/
def dst (a b : Nat) : Int := max (s16 a - s16 b) (s16 b - s16 a)
/-- The level of the vote, and whether there is one. -/
def resF (x : Nat → Nat) (k : Nat → Bool) (tol : Int) : Nat × Bool :=
  if k 0 && k 1 && k 2 then (fin3 1 x 1, true) else
  match thr x k 3 with
  | a :: b :: _ => if dst a b > tol then (0, false) else (fmx a b, true)
  | _ => (0, false)
def devF (x : Nat → Nat) (k : Nat → Bool) (lev : Nat) (tol : Int) (i : Nat) : Bool := k i && decide (dst (x i) lev > tol)

theorem idx3b0 (a b c : Bool) (w : World) : (Instr.index 127 (.agg #[.bool a, .bool b, .bool c]) (.int .i64 0)).run Tryz.prog w = .ok (.bool a) w := by kernel_rfl
theorem idx3b1 (a b c : Bool) (w : World) : (Instr.index 127 (.agg #[.bool a, .bool b, .bool c]) (.int .i64 1)).run Tryz.prog w = .ok (.bool b) w := by kernel_rfl
theorem idx3b2 (a b c : Bool) (w : World) : (Instr.index 127 (.agg #[.bool a, .bool b, .bool c]) (.int .i64 2)).run Tryz.prog w = .ok (.bool c) w := by kernel_rfl
attribute [local go_sem] idx3b0 idx3b1 idx3b2
def dvC (x : Nat → Nat) (k : Nat → Bool) (lev : Nat) (tol : Int) (m : Nat) : Array Value := #[.bool (decide (0 < m) && devF x k lev tol 0), .bool (decide (1 < m) && devF x k lev tol 1), .bool (decide (2 < m) && devF x k lev tol 2)]
def balC (x : Nat → Nat) (k : Nat → Bool) : Array Value := #[.float .f32 (x 0), .float .f32 (x 1), .float .f32 (x 2), .bool (k 0), .bool (k 1), .bool (k 2)]
theorem set3_blk {W : World} {R : Nat} {t : TypeId} {x0 x1 x2 : Value} (h : W.heap[R]? = some (.cells #[x0, x1, x2] t (0, 0))) (a b c : Value) : (((W.setCell ⟨R, 0, none⟩ a).setCell ⟨R, 1, none⟩ b).setCell ⟨R, 2, none⟩ c).heap[R]? = some (.cells #[a, b, c] t (0, 0)) := by
  have := blk_set (blk_set (blk_set h 0 a) 1 b) 2 c
  simpa using this
theorem dist_lev (a b : Nat) (w : World) (ha : levOK a = true) (hb : levOK b = true) : Calls Tryz.prog 88 #[.float .f32 a, .float .f32 b] w fun e w' => e = .returned (.int .i64 (dst a b)) ∧ w = w' := by
  obtain ⟨h1, h2, h3⟩ := sixt_of ha
  obtain ⟨g1, g2, g3⟩ := sixt_of hb
  exact dist_any a b _ _ w h1 g1 (by omega) (by omega)

set_option maxRecDepth 1000000 in
set_option maxHeartbeats 8000000 in
theorem dev_any (x : Nat → Nat) (k : Nat → Bool) (lev : Nat) (tol : Int) (hx : ∀ i, i < 3 → k i = true → levOK (x i) = true) (hl : levOK lev = true) (w : World) :
    Calls Tryz.prog 64 #[balV x k, .float .f32 lev, .int .i64 tol] w fun e w' => e = .returned (.agg #[.bool (devF x k lev tol 0), .bool (devF x k lev tol 1), .bool (devF x k lev tol 2)]) ∧ Below w.heap.size w w' := by
  unfold balV
  have HX := hd (And.intro hx hl)
  clear hx hl
  go_enter Tryz.func64, Tryz.ntmps64
  go_wp2
  obtain ⟨W0, hW0⟩ : ∃ W0, W0 = ((w.alloc (.cells (balC x k) 129)).alloc (.cells #[.bool false, .bool false, .bool false] 127)).alloc (.cells #[.bool false, .bool false, .bool false] 127) := ⟨_, rfl⟩
  have hsz : W0.heap.size = w.heap.size + 3 := by rw [hW0]; simp
  have hb0 : Below w.heap.size w W0 := by rw [hW0]; exact (((Below.refl _ w).alloc (Nat.le_refl _) _).alloc (by simp) _).alloc (by simp; omega) _
  have HG := hd (show W0.heap[w.heap.size]? = some (.cells (balC x k) 129 (0, 0)) by
    rw [hW0, Below.heap_alloc _ _ _ (by simp; omega), Below.heap_alloc _ _ _ (by simp)]; exact blk_new _ _ _)
  have HR := hd (show W0.heap[w.heap.size + 1]? = some (.cells #[.bool false, .bool false, .bool false] 127 (0, 0)) by
    have h1 := blk_new (w.alloc (.cells (balC x k) 129)) #[.bool false, .bool false, .bool false] 127
    simp only [World.size_alloc] at h1
    rw [hW0, Below.heap_alloc _ _ _ (by simp)]; exact h1)
  have HO := hd (show W0.heap[w.heap.size + 2]? = some (.cells (dvC x k lev tol 0) 127 (0, 0)) by
    have h1 := blk_new ((w.alloc (.cells (balC x k) 129)).alloc (.cells #[.bool false, .bool false, .bool false] 127)) #[.bool false, .bool false, .bool false] 127
    simp only [World.size_alloc] at h1
    rw [hW0]; exact h1)
  change Code.wp _ _ _ _ (((w.alloc (.cells (balC x k) 129)).alloc (.cells #[.bool false, .bool false, .bool false] 127)).alloc (.cells #[.bool false, .bool false, .bool false] 127))
  rw [← hW0]
  clear hW0
  go_loopw [12] (fun i wr => ∃ m : Nat, m ≤ 3 ∧ i = .int .i64 m ∧ Hid (wr.heap[w.heap.size]? = some (.cells (balC x k) 129 (0, 0)) ∧ wr.heap[w.heap.size + 1]? = some (.cells #[.bool false, .bool false, .bool false] 127 (0, 0)) ∧ wr.heap[w.heap.size + 2]? = some (.cells (dvC x k lev tol m) 127 (0, 0)) ∧ Below w.heap.size w wr)) (fun i _ => 3 - (intOf i).toNat)
  case atStart => exact ⟨0, by omega, rfl, ⟨HG.out, HR.out, HO.out, hb0⟩⟩
  case round =>
    obtain ⟨m, hm, rfl, HI⟩ := hrel
    obtain ⟨hg, hr, ho, hb⟩ := HI.out
    by_cases hlt : m < 3
    · have g0 := blk_cell hg 0
      have g1 := blk_cell hg 1
      have g2 := blk_cell hg 2
      simp [balC] at g0 g1 g2
      clear hg hr
      have key : ∀ (b : Bool), b = devF x k lev tol m → Hid ((wr.setCell ⟨w.heap.size + 2, m, none⟩ (.bool b)).heap[w.heap.size]? = some (.cells (balC x k) 129 (0, 0)) ∧ (wr.setCell ⟨w.heap.size + 2, m, none⟩ (.bool b)).heap[w.heap.size + 1]? = some (.cells #[.bool false, .bool false, .bool false] 127 (0, 0)) ∧ (wr.setCell ⟨w.heap.size + 2, m, none⟩ (.bool b)).heap[w.heap.size + 2]? = some (.cells (dvC x k lev tol (m + 1)) 127 (0, 0)) ∧ Below w.heap.size w (wr.setCell ⟨w.heap.size + 2, m, none⟩ (.bool b))) := by
        rintro b rfl
        refine ⟨(Below.heap_setCell wr ⟨_, m, none⟩ _ _ (by show w.heap.size ≠ w.heap.size + 2; omega)).trans HI.out.1, (Below.heap_setCell wr ⟨_, m, none⟩ _ _ (by show w.heap.size + 1 ≠ w.heap.size + 2; omega)).trans HI.out.2.1, ?_, hb.setCell (p := ⟨w.heap.size + 2, m, none⟩) (by show w.heap.size ≤ w.heap.size + 2; omega) _⟩
        have := blk_set HI.out.2.2.1 m (.bool (devF x k lev tol m))
        rcases (show m = 0 ∨ m = 1 ∨ m = 2 by omega) with rfl | rfl | rfl <;> simpa [dvC] using this
      have o0 := blk_frozen ho m
      have o1 := (blk_cell ho m)
      clear ho hb
      rcases (show m = 0 ∨ m = 1 ∨ m = 2 by omega) with rfl | rfl | rfl
      · simp [dvC] at o1
        cases hk : k 0
        · have HK := key false (by simp [devF, hk])
          clear key
          go_wp2
          go_roundw
          case rel => exact ⟨1, by omega, rfl, HK⟩
          case measure => simp [intOf]
        · have HK := key (decide (dst (x 0) lev > tol)) (by simp [devF, hk])
          have HD := hd (fun W => dist_lev (x 0) lev W (HX.out.1 0 (by omega) hk) HX.out.2)
          clear key
          go_wp2_with (go_at_call 88; refine (HD.out _).mono ?_; rintro e w' ⟨rfl, rfl⟩)
          go_roundw
          case rel => exact ⟨1, by omega, rfl, HK⟩
          case measure => simp [intOf]
      · simp [dvC] at o1
        cases hk : k 1
        · have HK := key false (by simp [devF, hk])
          clear key
          go_wp2
          go_roundw
          case rel => exact ⟨2, by omega, rfl, HK⟩
          case measure => simp [intOf]
        · have HK := key (decide (dst (x 1) lev > tol)) (by simp [devF, hk])
          have HD := hd (fun W => dist_lev (x 1) lev W (HX.out.1 1 (by omega) hk) HX.out.2)
          clear key
          go_wp2_with (go_at_call 88; refine (HD.out _).mono ?_; rintro e w' ⟨rfl, rfl⟩)
          go_roundw
          case rel => exact ⟨2, by omega, rfl, HK⟩
          case measure => simp [intOf]
      · simp [dvC] at o1
        cases hk : k 2
        · have HK := key false (by simp [devF, hk])
          clear key
          go_wp2
          go_roundw
          case rel => exact ⟨3, by omega, rfl, HK⟩
          case measure => simp [intOf]
        · have HK := key (decide (dst (x 2) lev > tol)) (by simp [devF, hk])
          have HD := hd (fun W => dist_lev (x 2) lev W (HX.out.1 2 (by omega) hk) HX.out.2)
          clear key
          go_wp2_with (go_at_call 88; refine (HD.out _).mono ?_; rintro e w' ⟨rfl, rfl⟩)
          go_roundw
          case rel => exact ⟨3, by omega, rfl, HK⟩
          case measure => simp [intOf]
    · obtain rfl : m = 3 := by omega
      have o0 := blk_cell ho 0
      have o1 := blk_cell ho 1
      have o2 := blk_cell ho 2
      simp [dvC] at o0 o1 o2
      have f0 := blk_frozen hr 0
      have f1 := blk_frozen hr 1
      have f2 := blk_frozen hr 2
      have r0 := blk_cell hr 0
      have r1 := blk_cell hr 1
      have r2 := blk_cell hr 2
      simp at r0 r1 r2
      clear hg hr ho hb
      go_wp2
      have b3 := set3_blk HI.out.2.1 (.bool (devF x k lev tol 0)) (.bool (devF x k lev tol 1)) (.bool (devF x k lev tol 2))
      have hB := ((HI.out.2.2.2.setCell (p := ⟨w.heap.size + 1, 0, none⟩) (Nat.le_succ _) (.bool (devF x k lev tol 0))).setCell (p := ⟨w.heap.size + 1, 1, none⟩) (Nat.le_succ _) (.bool (devF x k lev tol 1))).setCell (p := ⟨w.heap.size + 1, 2, none⟩) (Nat.le_succ _) (.bool (devF x k lev tol 2))
      generalize ((wr.setCell ⟨w.heap.size + 1, 0, none⟩ (.bool (devF x k lev tol 0))).setCell ⟨w.heap.size + 1, 1, none⟩ (.bool (devF x k lev tol 1))).setCell ⟨w.heap.size + 1, 2, none⟩ (.bool (devF x k lev tol 2)) = W5 at *
      have y0 := blk_cell b3 0
      have y1 := blk_cell b3 1
      have y2 := blk_cell b3 2
      simp at y0 y1 y2
      exact bodyPost_ret (v := .agg #[.bool (devF x k lev tol 0), .bool (devF x k lev tol 1), .bool (devF x k lev tol 2)]) (by simp [results, Tryz.results64, go_sem, y0, y1, y2]) rfl ⟨rfl, hB⟩
end Go.Proofs.YtkgkpcmokmhakaaGreatDoor

namespace Go.Proofs.YtkgkpcmokmhakaaGreatDoor
open Go.RowKit Go.Shelf
attribute [local go_sem] Oper.semAt_some idx3b0 idx3b1 idx3b2

theorem eq3b (a b c : Bool) (w : World) : (Op.equalIn 10000 127 (.agg #[.bool a, .bool b, .bool c]) (.agg #[.bool true, .bool true, .bool true])).run Tryz.prog w = .ok (a && b && c) w := by
  cases a <;> cases b <;> cases c <;> kernel_rfl
attribute [local go_sem] eq3b
theorem resF_three {x : Nat → Nat} {k : Nat → Bool} {tol : Int} (h : (k 0 && k 1 && k 2) = true) : resF x k tol = (fin3 1 x 1, true) := by unfold resF; rw [if_pos h]

theorem thr_ok {x : Nat → Nat} {k : Nat → Bool} (hx : ∀ i, i < 3 → k i = true → levOK (x i) = true) : ∀ y ∈ thr x k 3, levOK y = true := by
  intro y hy
  unfold thr at hy
  obtain ⟨i, hi, rfl⟩ := List.mem_map.1 hy
  obtain ⟨h1, h2⟩ := List.mem_filter.1 hi
  exact hx i (List.mem_range.1 h1) h2
theorem resF_few {x : Nat → Nat} {k : Nat → Bool} {tol : Int} (h : (k 0 && k 1 && k 2) = false) (hl : (thr x k 3).length < 2) : resF x k tol = (0, false) := by
  unfold resF
  rw [if_neg (by rw [h]; decide)]
  split
  · rename_i e; rw [e] at hl; simp at hl; omega
  · rfl
theorem resF_two {x : Nat → Nat} {k : Nat → Bool} {tol : Int} {a b : Nat} {l : List Nat} (h : (k 0 && k 1 && k 2) = false) (hl : thr x k 3 = a :: b :: l) : resF x k tol = if dst a b > tol then (0, false) else (fmx a b, true) := by
  unfold resF
  rw [if_neg (by rw [h]; decide), hl]

set_option maxRecDepth 1000000 in
set_option maxHeartbeats 8000000 in
theorem res_any (x : Nat → Nat) (k : Nat → Bool) (tol : Int) (hx : ∀ i, i < 3 → k i = true → levOK (x i) = true) (w : World) :
    Calls Tryz.prog 63 #[balV x k, .int .i64 tol] w fun e w' => e = .returned (.tuple #[.float .f32 (resF x k tol).1, .bool (resF x k tol).2]) ∧ Below w.heap.size w w' := by
  obtain ⟨i0, hi, hz0, hz1, hz2⟩ := info_parts floatInfo
  unfold balV
  have HX := hd hx
  clear hx
  go_enter Tryz.func63, Tryz.ntmps63
  by_cases h3 : (k 0 && k 1 && k 2) = true
  · have hr := resF_three (x := x) (tol := tol) h3
    simp only [Bool.and_eq_true] at h3
    obtain ⟨⟨h0, h1⟩, h2⟩ := h3
    have HR := hd hr
    have HN := hd (show ∀ i, i < 3 → isNum (x i) = true by
      intro i hi
      refine levOK_num (HX.out i hi ?_)
      rcases (show i = 0 ∨ i = 1 ∨ i = 2 by omega) with rfl | rfl | rfl <;> assumption)
    clear hr
    go_wp2_with fail
    have hb := blk_new w (balC x (fun _ => true)) 129
    refine (sort3_any w.heap.size 129 (.bool true) (.bool true) (.bool true) x HN.out _ hb).mono ?_
    rintro e w' ⟨rfl, h4, h5⟩
    have c1 := (blk_cell h4 1).trans (C3_at _ _ _ _ (by omega))
    have HB := hd ((Below.refl w.heap.size w).alloc (Nat.le_refl _) (Obj.cells (balC x (fun _ => true)) 129) |>.trans h5)
    clear h4 h5 hb
    go_wp2
    go_ret2
    exact ⟨by rw [HR.out]; rfl, HB.out⟩
  · have h3' : (k 0 && k 1 && k 2) = false := by simpa using h3
    have HF := hd h3'
    clear h3
    go_wp2_with fail
    obtain ⟨W0, hW0⟩ : ∃ W0, W0 = w.alloc (.cells (balC x k) 129) := ⟨_, rfl⟩
    have hsz : W0.heap.size = w.heap.size + 1 := by rw [hW0]; simp
    have hb0 : Below w.heap.size w W0 := by rw [hW0]; exact (Below.refl _ w).alloc (Nat.le_refl _) _
    have HG := hd (show W0.heap[w.heap.size]? = some (.cells (balC x k) 129 (0, 0)) by rw [hW0]; exact blk_new _ _ _)
    change Code.wp _ _ _ _ (w.alloc (.cells (balC x k) 129))
    rw [← hW0]
    clear hW0 h3'
    go_loopw [6, 21] (fun v i wr => ∃ m : Nat, m ≤ 3 ∧ i = .int .i64 m ∧ Hid (wr.ownsRow (w.heap.size + 1) 60 1 v (thr x k m).length ((thr x k m).map (Value.float .f32)) ∧ wr.heap[w.heap.size]? = some (.cells (balC x k) 129 (0, 0)) ∧ Below w.heap.size w wr)) (fun _ i _ => 3 - (intOf i).toNat)
    case atStart => exact ⟨0, by omega, rfl, ⟨World.ownsRow_nil _ _ _ _, HG.out, hb0⟩⟩
    case round =>
      obtain ⟨m, hm, rfl, HI⟩ := hrel
      have hbs := blk_lt HI.out.2.1
      by_cases hlt : m < 3
      · have hl := thr_len x k m
        rcases (show m = 0 ∨ m = 1 ∨ m = 2 by omega) with rfl | rfl | rfl
        · cases hk : k 0
          · have HK := hd hk
            clear hk
            go_wp2
            go_roundw
            case rel => exact ⟨1, by omega, rfl, ⟨by rw [thr_no HK.out]; exact HI.out.1, HI.out.2⟩⟩
            case measure => simp [intOf]
          · have HK := hd hk
            have g0 := blk_cell HI.out.2.1 0
            simp [balC] at g0
            have H63 := hd (show (thr x k 0).length + 1 ≤ maxLen by unfold maxLen; omega)
            have HBY := hd (show ((thr x k 0).length + 1) * 4 ≤ 140737488355328 by omega)
            clear hk
            go_wp2_with (at_builtin; refine wpList_append_own _ rfl _ _ 22 rfl (w.heap.size + 1) 60 i0 (.float .f32 0) 1 4 Tryz.underlying22 hi hz0 hz1 hz2 rfl (by decide) _ _ _ rfl (HI.out.1.alloc _) ⟨wr.heap.size, 0, none⟩ 1 1 [.float .f32 (x 0)] rfl rfl (cell_one_new _ _ _) (by simp [Value.oneCell']) H63.out HBY.out (by simp; omega) ?_; intro v' w1 hown' hgrow _; have HN := hd (And.intro hown' (And.intro ((hgrow.block w.heap.size (by simp; omega) (fun e => by have := (HI.out.1.lt _ e.symm).1; omega)).trans ((Below.heap_alloc wr _ w.heap.size hbs).trans HI.out.2.1)) ((HI.out.2.2.alloc HI.out.2.2.size _).trans (gb_below hgrow (show w.heap.size ≤ _ by simp; omega) (fun k hk => Nat.le_of_succ_le (HI.out.1.lt k hk).1))))); clear hown' hgrow)
            go_roundw
            case rel => exact ⟨1, by omega, rfl, ⟨by rw [thr_yes HK.out]; simpa using HN.out.1, HN.out.2⟩⟩
            case measure => simp [intOf]
        · cases hk : k 1
          · have HK := hd hk
            clear hk
            go_wp2
            go_roundw
            case rel => exact ⟨2, by omega, rfl, ⟨by rw [thr_no HK.out]; exact HI.out.1, HI.out.2⟩⟩
            case measure => simp [intOf]
          · have HK := hd hk
            have g0 := blk_cell HI.out.2.1 1
            simp [balC] at g0
            have H63 := hd (show (thr x k 1).length + 1 ≤ maxLen by unfold maxLen; omega)
            have HBY := hd (show ((thr x k 1).length + 1) * 4 ≤ 140737488355328 by omega)
            clear hk
            go_wp2_with (at_builtin; refine wpList_append_own _ rfl _ _ 22 rfl (w.heap.size + 1) 60 i0 (.float .f32 0) 1 4 Tryz.underlying22 hi hz0 hz1 hz2 rfl (by decide) _ _ _ rfl (HI.out.1.alloc _) ⟨wr.heap.size, 0, none⟩ 1 1 [.float .f32 (x 1)] rfl rfl (cell_one_new _ _ _) (by simp [Value.oneCell']) H63.out HBY.out (by simp; omega) ?_; intro v' w1 hown' hgrow _; have HN := hd (And.intro hown' (And.intro ((hgrow.block w.heap.size (by simp; omega) (fun e => by have := (HI.out.1.lt _ e.symm).1; omega)).trans ((Below.heap_alloc wr _ w.heap.size hbs).trans HI.out.2.1)) ((HI.out.2.2.alloc HI.out.2.2.size _).trans (gb_below hgrow (show w.heap.size ≤ _ by simp; omega) (fun k hk => Nat.le_of_succ_le (HI.out.1.lt k hk).1))))); clear hown' hgrow)
            go_roundw
            case rel => exact ⟨2, by omega, rfl, ⟨by rw [thr_yes HK.out]; simpa using HN.out.1, HN.out.2⟩⟩
            case measure => simp [intOf]
        · cases hk : k 2
          · have HK := hd hk
            clear hk
            go_wp2
            go_roundw
            case rel => exact ⟨3, by omega, rfl, ⟨by rw [thr_no HK.out]; exact HI.out.1, HI.out.2⟩⟩
            case measure => simp [intOf]
          · have HK := hd hk
            have g0 := blk_cell HI.out.2.1 2
            simp [balC] at g0
            have H63 := hd (show (thr x k 2).length + 1 ≤ maxLen by unfold maxLen; omega)
            have HBY := hd (show ((thr x k 2).length + 1) * 4 ≤ 140737488355328 by omega)
            clear hk
            go_wp2_with (at_builtin; refine wpList_append_own _ rfl _ _ 22 rfl (w.heap.size + 1) 60 i0 (.float .f32 0) 1 4 Tryz.underlying22 hi hz0 hz1 hz2 rfl (by decide) _ _ _ rfl (HI.out.1.alloc _) ⟨wr.heap.size, 0, none⟩ 1 1 [.float .f32 (x 2)] rfl rfl (cell_one_new _ _ _) (by simp [Value.oneCell']) H63.out HBY.out (by simp; omega) ?_; intro v' w1 hown' hgrow _; have HN := hd (And.intro hown' (And.intro ((hgrow.block w.heap.size (by simp; omega) (fun e => by have := (HI.out.1.lt _ e.symm).1; omega)).trans ((Below.heap_alloc wr _ w.heap.size hbs).trans HI.out.2.1)) ((HI.out.2.2.alloc HI.out.2.2.size _).trans (gb_below hgrow (show w.heap.size ≤ _ by simp; omega) (fun k hk => Nat.le_of_succ_le (HI.out.1.lt k hk).1))))); clear hown' hgrow)
            go_roundw
            case rel => exact ⟨3, by omega, rfl, ⟨by rw [thr_yes HK.out]; simpa using HN.out.1, HN.out.2⟩⟩
            case measure => simp [intOf]
      · obtain rfl : m = 3 := by omega
        have hl3 := thr_len x k 3
        obtain ⟨L, hL⟩ : ∃ L, L = thr x k 3 := ⟨_, rfl⟩
        have hI := HI.out
        rw [← hL] at hI hl3
        have HLd := hd hL
        clear HI hL
        obtain ⟨hown, hbl, hB⟩ := hI
        have HB := hd hB
        have HOK := hd (thr_ok HX.out)
        by_cases hlen : L.length < 2
        · have hd2 : decide ((L.length : Int) < 2) = true := by simp; omega
          obtain ⟨Av, cv, hv, -⟩ := own_form hown
          subst hv
          have HR := hd (resF_few (x := x) (tol := tol) HF.out (by rw [← HLd.out]; exact hlen))
          clear hown hbl hB
          go_wp2_with fail
          refine wp_region_bw_tail 13 (by kernel_rfl) (by kernel_rfl) ?_
          simp only [List.take_succ_cons, List.take_zero, List.drop_succ_cons, List.drop_zero]
          repeat (first | go_big_quiet_step (fail))
          refine wpQuiet_nil ?_
          rintro ⟨W2, hB2⟩
          change wpList _ _ _ _ _ W2
          have HB2 := hd (HB.out.trans (hB2.mono HB.out.size))
          clear hB2
          go_wp2
          go_ret2
          exact ⟨by rw [HR.out]; rfl, HB2.out⟩
        · obtain ⟨a, b, l, rfl⟩ : ∃ a b l, L = a :: b :: l := by
            match L, hlen with
            | a :: b :: l, _ => exact ⟨a, b, l, rfl⟩
            | [_], h => exact absurd (by simp) h
            | [], h => exact absurd (by simp) h
          have ha := HOK.out a (by rw [← HLd.out]; simp)
          have hb := HOK.out b (by rw [← HLd.out]; simp)
          have hna := levOK_num ha
          have hnb := levOK_num hb
          have HD := hd (fun W => dist_lev a b W ha hb)
          have hmx := fun W ts t => run_fmx (P := Tryz.prog) W ts t a b hna hnb
          have HT := hd (resF_two (x := x) (tol := tol) HF.out HLd.out.symm)
          have hd2 : decide (((a :: b :: l).length : Int) < 2) = false := by simp; omega
          have hi0 : (0 : Int) < ((a :: b :: l).length : Int) := by simp; omega
          have hi1 : (1 : Int) < ((a :: b :: l).length : Int) := by simp; omega
          obtain ⟨Av, cv, hv, hav⟩ := own_form hown
          obtain ⟨g, hg⟩ := hav (by simp)
          subst hg
          subst hv
          have x0 := (hown.cellAt 0 (by simp)).trans (show ((a :: b :: l).map (Value.float .f32))[0]? = some (.float .f32 a) from rfl)
          have x1 := (hown.cellAt 1 (by simp)).trans (show ((a :: b :: l).map (Value.float .f32))[1]? = some (.float .f32 b) from rfl)
          have hgl := (hown.lt g rfl).2
          generalize (a :: b :: l).length = n at *
          have F0 : ∀ p : Bw wr, p.out.cell? ⟨g, 0, none⟩ = some (.float .f32 a) := fun p => p.cell hgl x0
          have F1 : ∀ p : Bw wr, p.out.cell? ⟨g, 1, none⟩ = some (.float .f32 b) := fun p => p.cell hgl x1
          clear hown hbl hB ha hb hna hnb x0 x1 HLd HOK
          by_cases hq : dst a b > tol
          · have hq' : decide (dst a b > tol) = true := by simpa using hq
            have HR := hd (show resF x k tol = (0, false) by rw [HT.out, if_pos hq])
            clear hq
            go_wp2_with fail
            refine wp_region_bw_tail 13 (by kernel_rfl) (by kernel_rfl) ?_
            simp only [List.take_succ_cons, List.take_zero, List.drop_succ_cons, List.drop_zero]
            repeat (first | go_big_quiet_step (first | (go_at_call 88; exact Bw.pure _ (HD.out _))))
            refine wpQuiet_nil ?_
            rintro ⟨W2, hB2⟩
            change wpList _ _ _ _ _ W2
            have HB2 := hd (HB.out.trans (hB2.mono HB.out.size))
            clear hB2 F0 F1
            go_wp2
            go_ret2
            exact ⟨by rw [HR.out]; rfl, HB2.out⟩
          · have hq' : decide (dst a b > tol) = false := by simpa using hq
            have HR := hd (show resF x k tol = (fmx a b, true) by rw [HT.out, if_neg hq])
            clear hq
            go_wp2_with fail
            refine wp_region_bw_tail 13 (by kernel_rfl) (by kernel_rfl) ?_
            simp only [List.take_succ_cons, List.take_zero, List.drop_succ_cons, List.drop_zero]
            repeat (first | go_big_quiet_step (first | (go_at_call 88; exact Bw.pure _ (HD.out _))))
            refine wpQuiet_nil ?_
            rintro ⟨W2, hB2⟩
            change wpList _ _ _ _ _ W2
            have HB2 := hd (HB.out.trans (hB2.mono HB.out.size))
            have G0 : ∀ p : Bw W2, p.out.cell? ⟨g, 0, none⟩ = some (.float .f32 a) := fun p => F0 ⟨p.out, hB2.trans (p.below.mono hB2.size)⟩
            have G1 : ∀ p : Bw W2, p.out.cell? ⟨g, 1, none⟩ = some (.float .f32 b) := fun p => F1 ⟨p.out, hB2.trans (p.below.mono hB2.size)⟩
            clear hB2 F0 F1
            go_wp2_with fail
            refine wp_region_bw_tail 7 (by kernel_rfl) (by kernel_rfl) ?_
            simp only [List.take_succ_cons, List.take_zero, List.drop_succ_cons, List.drop_zero]
            repeat (first | go_big_quiet_step (fail))
            refine wpQuiet_nil ?_
            rintro ⟨W3, hB3⟩
            change wpList _ _ _ _ _ W3
            have HB3 := hd (HB2.out.trans (hB3.mono HB2.out.size))
            clear hB3 G0 G1
            go_wp2
            go_ret2
            exact ⟨by rw [HR.out]; rfl, HB3.out⟩
end Go.Proofs.YtkgkpcmokmhakaaGreatDoor

namespace Go.Proofs.YtkgkpcmokmhakaaGreatDoor
open Go.RowKit Go.Shelf
attribute [local go_sem] Oper.semAt_some
attribute [local go_sem, local simp] wide_fn

/-- What the gauges have at the indices. -/
abbrev Bal := Nat → Nat → Option Nat
def flO : Option Nat → Nat | none => 0 | some b => b
def cellF (F : Bal) (i r : Nat) : Value := if r < 3 then .float .f32 (flO (F i r)) else .bool (F i (r - 3)).isSome
def cellsB (n : Nat) (F : Bal) : List Value := (List.range (6 * n)).map (fun j => cellF F (j / 6) (j % 6))
def updB (F : Bal) (i g b : Nat) : Bal := fun i' g' => if i' = i ∧ g' = g then some b else F i' g'
theorem cellsB_len (n : Nat) (F : Bal) : (cellsB n F).length = 6 * n := by simp [cellsB]
theorem cellsB_at (n : Nat) (F : Bal) {i r : Nat} (hi : i < n) (hr : r < 6) : (cellsB n F)[i * 6 + r]? = some (cellF F i r) := by
  simp only [cellsB, List.getElem?_map]
  rw [List.getElem?_range (by omega)]
  simp only [Option.map_some]
  rw [show (i * 6 + r) / 6 = i by omega, show (i * 6 + r) % 6 = r by omega]
theorem cellsB_upd (n : Nat) (F : Bal) {i g : Nat} (b : Nat) (_hi : i < n) (hg : g < 3) : ((cellsB n F).set (i * 6 + g) (.float .f32 b)).set (i * 6 + 3 + g) (.bool true) = cellsB n (updB F i g b) := by
  apply List.ext_getElem
  · simp [cellsB]
  · intro j h1 h2
    simp only [cellsB_len] at h2
    simp only [cellsB, List.getElem_map, List.getElem_range, List.getElem_set]
    by_cases e1 : i * 6 + 3 + g = j
    · rw [if_pos e1]
      have a1 : j / 6 = i := by omega
      have a2 : j % 6 = 3 + g := by omega
      rw [a1, a2]; unfold cellF updB
      rw [if_neg (by omega), show 3 + g - 3 = g by omega, if_pos ⟨rfl, rfl⟩]; rfl
    · rw [if_neg e1]
      by_cases e2 : i * 6 + g = j
      · rw [if_pos e2]
        have a1 : j / 6 = i := by omega
        have a2 : j % 6 = g := by omega
        rw [a1, a2]; unfold cellF updB
        rw [if_pos hg, if_pos ⟨rfl, rfl⟩]; rfl
      · rw [if_neg e2]
        unfold cellF updB
        by_cases e3 : j % 6 < 3
        · rw [if_pos e3, if_pos e3, if_neg (by omega)]
        · rw [if_neg e3, if_neg e3, if_neg (by omega)]
/-- The recorded levels of a gauge laid into the ballots. -/
def updA {n : Nat} (F : Bal) (g : Nat) (l : List (LvM n)) : Bal := l.foldl (fun F x => updB F x.1.1 g x.1.2) F
theorem updA_snoc {n : Nat} (F : Bal) (g : Nat) (l : List (LvM n)) (x : LvM n) : updA F g (l ++ [x]) = updB (updA F g l) x.1.1 g x.1.2 := by simp [updA, List.foldl_append]
def okB (F : Bal) : Prop := ∀ i g b, F i g = some b → levOK b = true
theorem okB_upd {F : Bal} (h : okB F) (i g b : Nat) (hb : levOK b = true) : okB (updB F i g b) := by
  intro i' g' b' e
  unfold updB at e
  split at e
  · cases e; exact hb
  · exact h _ _ _ e
theorem okB_updA {n : Nat} (g : Nat) : ∀ (l : List (LvM n)) (F : Bal), okB F → okB (updA F g l)
  | [], _, h => h
  | x :: l, _, h => okB_updA g l _ (okB_upd h x.1.1 g x.1.2 x.2.2)
/-- The ballots behind so many gauges. -/
def balF (bs : Nat → List Nat) (gs : Nat → List (Int × Int)) : Nat → Bal
  | 0 => fun _ _ => none
  | g + 1 => updA (balF bs gs g) g (itm (gs g) (fLvM (bs g)) (bs g).length)
theorem balF_ok (bs : Nat → List Nat) (gs : Nat → List (Int × Int)) : ∀ g, okB (balF bs gs g)
  | 0 => fun _ _ _ h => by cases h
  | g + 1 => okB_updA g _ _ (balF_ok bs gs g)

theorem balInfo : (Tryz.prog.info? 129).map (fun i => (i.zero, i.size, i.bytes)) = some (some (.agg #[.float .f32 0, .float .f32 0, .float .f32 0, .bool false, .bool false, .bool false]), 6, 16) := by kernel_rfl
/-- Three records, as a value. -/
def rec3 (nm : Nat → ByteArray) (st : Nat → Int) (lv gv : Nat → Value) : Array Value := #[.string (nm 0), .int .i64 (st 0), lv 0, gv 0, .string (nm 1), .int .i64 (st 1), lv 1, gv 1, .string (nm 2), .int .i64 (st 2), lv 2, gv 2]
theorem idx3r (nm : Nat → ByteArray) (st : Nat → Int) (lv gv : Nat → Value) (k : Nat) (hk : k < 3) (w : World) : (Instr.index 64 (.agg (rec3 nm st lv gv)) (.int .i64 k)).run Tryz.prog w = .ok (.agg #[.string (nm k), .int .i64 (st k), lv k, gv k]) w := by
  rcases (show k = 0 ∨ k = 1 ∨ k = 2 by omega) with rfl | rfl | rfl <;> kernel_rfl
end Go.Proofs.YtkgkpcmokmhakaaGreatDoor
