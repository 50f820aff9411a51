/-
  What the statements' example gives, by plain words and by the kernel.
  The contracts that the statements' example calls, at its values.
-/
import Derived.Test.YtkjgofknnhngdaaGreatDoorProg
import Derived.Test.YtkjgofknnhngdaaGreatDoorMS
import Derived.Test.YtkjgofknnhngdaaGreatDoorMN
import Derived.Test.YtkjgofknnhngdaaGreatDoorMK
import Derived.Test.YtkjgofknnhngdaaGreatDoorMQ
import Derived.Test.YtkjgofknnhngdaaGreatDoorMO
import Derived.Test.YtkjgofknnhngdaaGreatDoorShelfB
import Derived.Test.YtkjgofknnhngdaaGreatDoorMI
import Derived.Test.YtkjgofknnhngdaaGreatDoorMJ
import Derived.Test.YtkjgofknnhngdaaGreatDoorMR

namespace Go.Proofs.YtkjgofknnhngdaaGreatDoor
open Go.RowKit Go.Shelf

def exA : List (Int × Int) := [(0, 4), (6, 9)]
def exB : List (Int × Int) := [(2, 7)]
def exR : List Ru := [(sJump, 16, 0), (sStuck, 2, 0)]
def exN : List Ru := [(sRange, 0, 48)]
theorem exA_ok : chkSpans exA = 0 := by decide +kernel
theorem exB_ok : chkSpans exB = 0 := by decide +kernel
theorem exR_ok : chkRules exR = 0 := by decide +kernel
theorem exN_ok : chkRules exN = 0 := by decide +kernel
theorem ex_all : endAll exA exB = [0, 4, 6, 9, 2, 7] := by decide +kernel
theorem ex_sort : (([0, 4, 6, 9, 2, 7] : List Int).mergeSort fun x y => decide (x ≤ y)) = [0, 2, 4, 6, 7, 9] := by
  simp [List.mergeSort, List.MergeSort.Internal.splitInTwo]
theorem ex_cuts : cutsOf exA exB = [0, 2, 4, 6, 7, 9] := by
  unfold cutsOf
  rw [ex_all, ex_sort]
  decide +kernel
theorem ex_join : choice (fun x y => x || y) exA exB = [(0, 9)] := by
  unfold choice
  rw [ex_cuts]
  decide +kernel
theorem ex_meet : choice (fun x y => x && y) exA exB = [(2, 4), (6, 7)] := by
  unfold choice
  rw [ex_cuts]
  decide +kernel
theorem ex_minus : choice (fun x y => x && !y) exA exB = [(0, 2), (7, 9)] := by
  unfold choice
  rw [ex_cuts]
  decide +kernel
theorem ex_reasons : (apF hkL hkG exR exR.length).2.2 = [0, 0, 2, 1, 0, 0, 0] := by decide +kernel
theorem ex_gaps : (apF hkL hkG exR exR.length).2.1 = [(2, 4), (5, 6)] := by decide +kernel
theorem ex_range : (apF hkL hkG exN exN.length).2.2 = [0, 0, 0, 1, 0, 0, 0] := by decide +kernel
theorem ex_lev : (fillF hkL hkG 1 hkG.length).lev = [1065353216, 1065353216, 1065353216, 1084227584, 1069547520, 1069547520, 1073741824] := by decide +kernel
theorem ex_gap : (fillF hkL hkG 1 hkG.length).gap = [] := by decide +kernel
theorem ex_fil : (fillF hkL hkG 1 hkG.length).fil = [(5, 6)] := by decide +kernel
def exL (g : Nat) : List Nat := match g with
  | 0 => [1065353216, 1073741824, 1077936128]
  | 1 => [1065353216, 1082130432, 0]
  | _ => [1077936128, 1077936128, 0]
def exG (g : Nat) : List (Int × Int) := match g with
  | 0 => []
  | _ => [(2, 3)]
def exM (g : Nat) : ByteArray := match g with
  | 0 => ⟨#[97]⟩
  | 1 => ⟨#[98]⟩
  | _ => ⟨#[99]⟩
theorem ex_vlev : asmK (vLev (balF exL exG 3) 16 (exL 0).length (exL 0).length) (vMrk (balF exL exG 3) 16 (exL 0).length (exL 0).length) (exL 0).length = [1065353216, 1077936128, 0] := by decide +kernel
theorem ex_vgap : strF (misK (vMrk (balF exL exG 3) 16 (exL 0).length (exL 0).length) (exL 0).length (exL 0).length) (exL 0).length = [(2, 3)] := by decide +kernel
theorem ex_v0 : vCnt (balF exL exG 3) 16 0 (exL 0).length = 0 := by decide +kernel
theorem ex_v1 : vCnt (balF exL exG 3) 16 1 (exL 0).length = 0 := by decide +kernel
theorem ex_v2 : vCnt (balF exL exG 3) 16 2 (exL 0).length = 1 := by decide +kernel
theorem ex_highs : selM (wat fgt (knL hkG hkL.length) hkL 2) (itm hkG (fLvM hkL) hkL.length) = [0, 3, 6] := by decide +kernel
theorem ex_lows : selM (wat flt (knL hkG hkL.length) hkL 2) (itm hkG (fLvM hkL) hkL.length) = [0] := by decide +kernel
theorem ex_lows1 : selM (wat flt (knL hkG hkL.length) hkL 1) (itm hkG (fLvM hkL) hkL.length) = [0, 4, 6] := by decide +kernel
theorem ex_above : strF (abK 1065353216 (itm hkG (fLvM hkL) hkL.length)) hkL.length = [(3, 5), (6, 7)] := by decide +kernel
theorem ex_sum : sumR (sumF (itm hkG (fLvM hkL) hkL.length)) = .tuple #[.agg #[.int .i64 6, .int .i64 184, .float .f32 1065353216, .float .f32 1084227584], .int .i64 0] := by kernel_rfl
theorem ex_enc : (encV hkN 10 hkL hkG).length = 57 := by decide +kernel
theorem ex_enc29 : (encV hkN 10 hkL hkG)[29]? = some (.int .u8 63) := by kernel_rfl
theorem ex_enc30 : (encV hkN 10 hkL hkG)[30]? = some (.int .u8 128) := by kernel_rfl
end Go.Proofs.YtkjgofknnhngdaaGreatDoor

namespace Go.Proofs.YtkjgofknnhngdaaGreatDoor
open Go.RowKit Go.Shelf

theorem Rd.up {w w' : World} {n : Nat} {v : Value} {xs : List Value} (h : Rd w w.heap.size v n xs) (hb : Below w.heap.size w w') : Rd w' w'.heap.size v n xs := (h.below hb (Nat.le_refl _)).mono hb.size

/-- A list and no error. -/
def Gives (k : Nat) (xs : List Value) (w : World) (e : Ending) (w' : World) : Prop := ∃ v, e = .returned (.tuple #[v, .int .i64 0]) ∧ Rd w' w'.heap.size v k xs ∧ Below w.heap.size w w'
def Yes (w : World) (e : Ending) (w' : World) : Prop := e = .returned (.bool true) ∧ Below w.heap.size w w'

theorem spans_yes (l : List (Int × Int)) (s1 s2 : Value) (w : World) (h1 : Rd w w.heap.size s1 l.length (spc l)) (h2 : Rd w w.heap.size s2 l.length (spc l)) : Calls Tryz.prog 21 #[s1, s2] w (Yes w) := by
  refine (sameSpans_any s1 s2 l l w h1 h2).mono ?_
  rintro e w' ⟨rfl, hb⟩
  rw [show sameF (fun x y : Int × Int => x == y) (0, 0) l l = true from sameF_yes _ _ _ _ rfl (fun j _ => by simp)]
  exact ⟨rfl, hb⟩
theorem ints_yes (l : List Int) (s1 s2 : Value) (w : World) (h1 : Rd w w.heap.size s1 l.length (l.map (Value.int .i64))) (h2 : Rd w w.heap.size s2 l.length (l.map (Value.int .i64))) : Calls Tryz.prog 26 #[s1, s2] w (Yes w) := by
  refine (sameInts_any s1 s2 l l w h1 h2).mono ?_
  rintro e w' ⟨rfl, hb⟩
  rw [show sameF (fun x y : Int => x == y) 0 l l = true from sameF_yes _ _ _ _ rfl (fun j _ => by simp)]
  exact ⟨rfl, hb⟩
theorem lev3_same : sameF feqL 0 [1065353216, 1077936128, 0] [1065353216, 1077936128, 0] = true := by decide +kernel
theorem lev3_yes (s1 s2 : Value) (w : World) (h1 : Rd w w.heap.size s1 3 (flc [1065353216, 1077936128, 0])) (h2 : Rd w w.heap.size s2 3 (flc [1065353216, 1077936128, 0])) : Calls Tryz.prog 32 #[s1, s2] w (Yes w) := by
  refine (sameLevels_any s1 s2 [1065353216, 1077936128, 0] [1065353216, 1077936128, 0] w h1 h2).mono ?_
  rintro e w' ⟨rfl, hb⟩
  rw [lev3_same]
  exact ⟨rfl, hb⟩
theorem chosen_gives {kp : Bool → Bool → Bool} {a b l : List (Int × Int)} {w w' : World} {e : Ending} (hc : choice kp a b = l) (hn : ¬2048 < l.length) (h : Chosen kp a b w e w') : Gives l.length (spc l) w e w' := by
  unfold Chosen at h
  rw [hc, if_neg hn] at h
  obtain ⟨v, h1, h2, h3⟩ := h
  exact ⟨v, h1, rd_of_own h2, h3⟩
section
variable (sa sb : Value) (w : World) (ha : Rd w w.heap.size sa 2 (spc exA)) (hb : Rd w w.heap.size sb 1 (spc exB))
include ha hb
theorem ex_join_any : Calls Tryz.prog 18 #[sa, sb] w (Gives 1 (spc [(0, 9)]) w) := (join_any sa sb exA exB w ha hb exA_ok exB_ok).mono fun _ _ h => chosen_gives ex_join (by decide) h
theorem ex_meet_any : Calls Tryz.prog 19 #[sa, sb] w (Gives 2 (spc [(2, 4), (6, 7)]) w) := (meet_any sa sb exA exB w ha hb exA_ok exB_ok).mono fun _ _ h => chosen_gives ex_meet (by decide) h
theorem ex_minus_any : Calls Tryz.prog 20 #[sa, sb] w (Gives 2 (spc [(0, 2), (7, 9)]) w) := (minus_any sa sb exA exB w ha hb exA_ok exB_ok).mono fun _ _ h => chosen_gives ex_minus (by decide) h
end
section
variable (lv gv : Value) (w : World) (hl : Rd w w.heap.size lv 7 (flc hkL)) (hg : Rd w w.heap.size gv 1 (spc hkG))
include hl hg
theorem ex_reasons_any (rv : Value) (hr : Rd w w.heap.size rv 2 (ruc exR)) : Calls Tryz.prog 22 #[.agg #[.string hkN, .int .i64 10, lv, gv], rv] w (Gives 7 (([0, 0, 2, 1, 0, 0, 0] : List Int).map (Value.int .i64)) w) := by
  refine (reasons_ok hkN 10 lv gv rv hkL hkG exR w hl hg hr hk_valid exR_ok).mono ?_
  rintro e w' ⟨v, rfl, h1, h2⟩
  rw [ex_reasons] at h1
  exact ⟨v, rfl, rd_of_own h1, h2⟩
theorem ex_range_any (rv : Value) (hr : Rd w w.heap.size rv 1 (ruc exN)) : Calls Tryz.prog 22 #[.agg #[.string hkN, .int .i64 10, lv, gv], rv] w (Gives 7 (([0, 0, 0, 1, 0, 0, 0] : List Int).map (Value.int .i64)) w) := by
  refine (reasons_ok hkN 10 lv gv rv hkL hkG exN w hl hg hr hk_valid exN_ok).mono ?_
  rintro e w' ⟨v, rfl, h1, h2⟩
  rw [ex_range] at h1
  exact ⟨v, rfl, rd_of_own h1, h2⟩
theorem ex_clean_any (rv : Value) (hr : Rd w w.heap.size rv 2 (ruc exR)) : Calls Tryz.prog 24 #[.agg #[.string hkN, .int .i64 10, lv, gv], rv] w fun e w' => ∃ A' m c' A c, e = .returned (.tuple #[.agg #[.string hkN, .int .i64 10, .slice A' m c', .slice A 2 c], .int .i64 0]) ∧ Rd w' w'.heap.size (.slice A 2 c) 2 (spc [(2, 4), (5, 6)]) ∧ Below w.heap.size w w' := by
  refine (clean_ok hkN 10 lv gv rv hkL hkG exR w hl hg hr hk_valid exR_ok).mono ?_
  rintro e w' ⟨lv', gv', rfl, h0, h1, h2⟩
  rw [ex_gaps] at h1
  obtain ⟨A, c, rfl, -⟩ := own_form h1
  obtain ⟨A', c', rfl, -⟩ := own_form h0
  exact ⟨A', _, c', A, c, rfl, rd_of_own h1, h2⟩
theorem ex_fill_any : Calls Tryz.prog 25 #[.agg #[.string hkN, .int .i64 10, lv, gv], .int .i64 1] w fun e w' => ∃ A c A' c' sv, e = .returned (.tuple #[.agg #[.string hkN, .int .i64 10, .slice A 7 c, .slice A' 0 c'], sv, .int .i64 0]) ∧ Rd w' w'.heap.size (.slice A 7 c) 7 (flc [1065353216, 1065353216, 1065353216, 1084227584, 1069547520, 1069547520, 1073741824]) ∧ Rd w' w'.heap.size sv 1 (spc [(5, 6)]) ∧ Below w.heap.size w w' := by
  refine (fill_any hkN 10 lv gv hkL hkG 1 w hl hg hk_valid (by decide)).mono ?_
  rintro e w' ⟨lv', gv', sv, rfl, h0, h1, h2, h3⟩
  rw [ex_lev] at h0
  rw [ex_gap] at h1
  rw [ex_fil] at h2
  obtain ⟨A, c, rfl, -⟩ := own_form h0
  obtain ⟨A', c', rfl, -⟩ := own_form h1
  exact ⟨A, c, A', c', sv, rfl, rd_of_own h0, rd_of_own h2, h3⟩
theorem ex_highs_any : Calls Tryz.prog 28 #[.agg #[.string hkN, .int .i64 10, lv, gv], .int .i64 2] w (Gives 3 (([0, 3, 6] : List Int).map (Value.int .i64)) w) := by
  refine (highs_any hkN 10 lv gv hkL hkG 2 w hl hg hk_valid (by decide) (by decide)).mono ?_
  rintro e w' ⟨v, rfl, h1, h2⟩
  rw [ex_highs] at h1
  exact ⟨v, rfl, rd_of_own h1, h2⟩
theorem ex_lows_any : Calls Tryz.prog 29 #[.agg #[.string hkN, .int .i64 10, lv, gv], .int .i64 2] w (Gives 1 (([0] : List Int).map (Value.int .i64)) w) := by
  refine (lows_any hkN 10 lv gv hkL hkG 2 w hl hg hk_valid (by decide) (by decide)).mono ?_
  rintro e w' ⟨v, rfl, h1, h2⟩
  rw [ex_lows] at h1
  exact ⟨v, rfl, rd_of_own h1, h2⟩
theorem ex_lows1_any : Calls Tryz.prog 29 #[.agg #[.string hkN, .int .i64 10, lv, gv], .int .i64 1] w (Gives 3 (([0, 4, 6] : List Int).map (Value.int .i64)) w) := by
  refine (lows_any hkN 10 lv gv hkL hkG 1 w hl hg hk_valid (by decide) (by decide)).mono ?_
  rintro e w' ⟨v, rfl, h1, h2⟩
  rw [ex_lows1] at h1
  exact ⟨v, rfl, rd_of_own h1, h2⟩
theorem ex_above_any : Calls Tryz.prog 30 #[.agg #[.string hkN, .int .i64 10, lv, gv], .float .f32 1065353216] w (Gives 2 (spc [(3, 5), (6, 7)]) w) := by
  refine (callsIn_wide.1 (above_in hkN 10 1065353216 lv gv hkL hkG w hl hg hk_valid (by decide +kernel))).mono ?_
  rintro e w' ⟨v, rfl, h1, h2⟩
  rw [ex_above] at h1
  exact ⟨v, rfl, rd_of_own h1, h2⟩
theorem ex_sum_any : Calls Tryz.prog 31 #[.agg #[.string hkN, .int .i64 10, lv, gv]] w fun e w' => e = .returned (.tuple #[.agg #[.int .i64 6, .int .i64 184, .float .f32 1065353216, .float .f32 1084227584], .int .i64 0]) ∧ Below w.heap.size w w' := by
  refine (summary_any hkN 10 lv gv hkL hkG w hl hg hk_valid).mono ?_
  rintro e w' ⟨rfl, h2⟩
  rw [ex_sum]
  exact ⟨rfl, h2⟩
theorem ex_enc_any : Calls Tryz.prog 14 #[.agg #[.string hkN, .int .i64 10, lv, gv]] w fun e w' => ∃ v, e = .returned (.tuple #[v, .int .i64 0]) ∧ Rd w' w'.heap.size v 57 (encV hkN 10 hkL hkG) ∧ Below w.heap.size w w' := by
  refine (encode_any hkN 10 lv gv hkL hkG w hl hg hk_valid).mono ?_
  rintro e w' ⟨v, rfl, h1, h2⟩
  have h1 := rd_of_own h1
  rw [ex_enc] at h1
  exact ⟨v, rfl, h1, h2⟩
end

def fn3 (a b c : Value) (g : Nat) : Value := match g with
  | 0 => a
  | 1 => b
  | _ => c
theorem ex_vals (g : Nat) (hg : g < 3) : Valid (exM g) 0 (exL g) (exG g) := by
  have lv : ∀ g, g < 3 → ∀ j, j < 3 → levOK ((exL g).getD j 0) = true := by
    intro g hg j hj
    rcases (show g = 0 ∨ g = 1 ∨ g = 2 by omega) with rfl | rfl | rfl <;> rcases (show j = 0 ∨ j = 1 ∨ j = 2 by omega) with rfl | rfl | rfl <;> decide +kernel
  have h3 : (exL g).length = 3 := by rcases (show g = 0 ∨ g = 1 ∨ g = 2 by omega) with rfl | rfl | rfl <;> rfl
  refine ⟨?_, ?_, by decide, by omega, fun j hj => lv g hg j (by omega), ?_, ?_, ?_⟩
  · rcases (show g = 0 ∨ g = 1 ∨ g = 2 by omega) with rfl | rfl | rfl <;> decide
  · rcases (show g = 0 ∨ g = 1 ∨ g = 2 by omega) with rfl | rfl | rfl <;> decide +kernel
  · rcases (show g = 0 ∨ g = 1 ∨ g = 2 by omega) with rfl | rfl | rfl <;> decide +kernel
  · intro j hj
    rcases (show g = 0 ∨ g = 1 ∨ g = 2 by omega) with rfl | rfl | rfl
    · simp [exG] at hj
    · obtain rfl : j = 0 := by simp [exG] at hj; omega
      decide
    · obtain rfl : j = 0 := by simp [exG] at hj; omega
      decide
  · intro j hj i h1 h2
    rcases (show g = 0 ∨ g = 1 ∨ g = 2 by omega) with rfl | rfl | rfl
    · simp [exG] at hj
    · obtain rfl : j = 0 := by simp [exG] at hj; omega
      obtain rfl : i = 2 := by simp [exG] at h1 h2; omega
      decide +kernel
    · obtain rfl : j = 0 := by simp [exG] at hj; omega
      obtain rfl : i = 2 := by simp [exG] at h1 h2; omega
      decide +kernel
theorem ex_vote_any (a b c g : Value) (w : World) (ha : Rd w w.heap.size a 3 (flc (exL 0))) (hb : Rd w w.heap.size b 3 (flc (exL 1))) (hc : Rd w w.heap.size c 3 (flc (exL 2))) (hg : Rd w w.heap.size g 1 (spc [(2, 3)])) :
    Calls Tryz.prog 27 #[.agg #[.string ⟨#[97]⟩, .int .i64 0, a, .slice none 0 0, .string ⟨#[98]⟩, .int .i64 0, b, g, .string ⟨#[99]⟩, .int .i64 0, c, g], .int .i64 16] w fun e w' => ∃ A p A' q, e = .returned (.tuple #[.agg #[.string ⟨#[97]⟩, .int .i64 0, .slice A 3 p, .slice A' 1 q], .agg #[.int .i64 0, .int .i64 0, .int .i64 1], .int .i64 0]) ∧ Rd w' w'.heap.size (.slice A 3 p) 3 (flc [1065353216, 1077936128, 0]) ∧ Rd w' w'.heap.size (.slice A' 1 q) 1 (spc [(2, 3)]) ∧ Below w.heap.size w w' := by
  refine (vote_any exM (fun _ => 0) (fn3 a b c) (fn3 (.slice none 0 0) g g) exL exG 16 w ?_ ?_ ex_vals ?_ (fun _ _ => rfl) (by decide)).mono ?_
  · intro k hk
    rcases (show k = 0 ∨ k = 1 ∨ k = 2 by omega) with rfl | rfl | rfl
    · exact ha
    · exact hb
    · exact hc
  · intro k hk
    rcases (show k = 0 ∨ k = 1 ∨ k = 2 by omega) with rfl | rfl | rfl
    · exact Rd.nil _ _
    · exact hg
    · exact hg
  · intro k hk
    rcases (show k = 0 ∨ k = 1 ∨ k = 2 by omega) with rfl | rfl | rfl <;> rfl
  · rintro e w' ⟨lv', gv', rfl, h1, h2, h3⟩
    rw [ex_vlev] at h1
    rw [ex_vgap] at h2
    rw [ex_v0, ex_v1, ex_v2]
    obtain ⟨A, p, rfl, -⟩ := own_form h1
    obtain ⟨A', q, rfl, -⟩ := own_form h2
    exact ⟨A, p, A', q, rfl, rd_of_own h1, rd_of_own h2, h3⟩

abbrev Blk (w : World) (a : Nat) (cs : Array Value) (t : TypeId) : Prop := w.heap[a]? = some (.cells cs t (0, 0))
theorem Blk.up {w w' : World} {a : Nat} {cs : Array Value} {t : TypeId} (h : Blk w a cs t) (hb : Below w.heap.size w w') : Blk w' a cs t := (hb.block _ (blk_lt h)).trans h
theorem Blk.new (w : World) (cs : Array Value) (t : TypeId) : Blk (w.alloc (.cells cs t)) w.heap.size cs t := blk_new w cs t
theorem eq3c (w : World) : (Op.equalIn 10000 67 (.agg #[.int .i64 0, .int .i64 0, .int .i64 1]) (.agg #[.int .i64 0, .int .i64 0, .int .i64 1])).run Tryz.prog w = .ok true w := by kernel_rfl
theorem eqStc (w : World) : (Op.equalIn 10000 74 (.agg #[.int .i64 6, .int .i64 184, .float .f32 1065353216, .float .f32 1084227584]) (.agg #[.int .i64 6, .int .i64 184, .float .f32 1065353216, .float .f32 1084227584])).run Tryz.prog w = .ok true w := by kernel_rfl
theorem eqF1 (w : World) : (Op.equalIn 9999 66 (.float .f32 1065353216) (.float .f32 1065353216)).run Tryz.prog w = .ok true w := by kernel_rfl
theorem eqF2 (w : World) : (Op.equalIn 9999 66 (.float .f32 1084227584) (.float .f32 1084227584)).run Tryz.prog w = .ok true w := by kernel_rfl
theorem eqGSt (x y : Operand) (w : World) : (eqGuard .eql 74 x y (.agg #[.int .i64 6, .int .i64 184, .float .f32 1065353216, .float .f32 1084227584]) (.agg #[.int .i64 6, .int .i64 184, .float .f32 1065353216, .float .f32 1084227584])).run Tryz.prog w = .ok () w := by kernel_rfl
theorem binSt (w : World) : (binOp .eql 74 (.agg #[.int .i64 6, .int .i64 184, .float .f32 1065353216, .float .f32 1084227584]) (.agg #[.int .i64 6, .int .i64 184, .float .f32 1065353216, .float .f32 1084227584])).run Tryz.prog w = .ok (.bool true) w := by kernel_rfl

/-- The decimal numerals that Print needs. -/
def itaE (n : Int) : ByteArray := if n = 10 then ⟨#[49, 48]⟩ else if n = 16 then ⟨#[49, 54]⟩ else if n = 80 then ⟨#[56, 48]⟩ else if n = 24 then ⟨#[50, 52]⟩ else if n = 32 then ⟨#[51, 50]⟩ else ⟨#[]⟩
theorem ita_of (i : Nat) (s : List UInt8) (hi : i < 100) (hs : Lib.decDigits i = s) (he : itaE (i : Int) = ⟨s.toArray⟩) (hl : s.length ≤ 32) : ItaOf itaE (i : Int) := by
  refine ⟨by rw [he]; simpa [ByteArray.size] using hl, fun W => (Tryz.strconv_Itoa_small i hi W).mono ?_⟩
  rintro e w' ⟨rfl, rfl⟩
  rw [hs, ← he]
  exact ⟨rfl, Below.refl _ _⟩
theorem ita10 : ItaOf itaE 10 := ita_of 10 [49, 48] (by decide) (by simp [Lib.decDigits]) rfl (by decide)
theorem ita16 : ItaOf itaE 16 := ita_of 16 [49, 54] (by decide) (by simp [Lib.decDigits]) rfl (by decide)
theorem ita80 : ItaOf itaE 80 := ita_of 80 [56, 48] (by decide) (by simp [Lib.decDigits]) rfl (by decide)
theorem ita24 : ItaOf itaE 24 := ita_of 24 [50, 52] (by decide) (by simp [Lib.decDigits]) rfl (by decide)
theorem ita32 : ItaOf itaE 32 := ita_of 32 [51, 50] (by decide) (by simp [Lib.decDigits]) rfl (by decide)
abbrev exText : ByteArray := ⟨#[103, 97, 117, 103, 101, 32, 104, 111, 111, 107, 32, 49, 48, 10, 49, 54, 10, 49, 54, 10, 49, 54, 10, 56, 48, 10, 50, 52, 10, 45, 10, 51, 50, 10]⟩
theorem ex_text : (⟨(textP itaE hkN 10 (knL hkG hkL.length) hkL hkL.length).toArray⟩ : ByteArray) = exText := by kernel_rfl
theorem ex_print_any (lv gv : Value) (w : World) (hl : Rd w w.heap.size lv 7 (flc hkL)) (hg : Rd w w.heap.size gv 1 (spc hkG)) : Calls Tryz.prog 7 #[.agg #[.string hkN, .int .i64 10, lv, gv]] w fun e w' => e = .returned (.tuple #[.string exText, .int .i64 0]) ∧ Below w.heap.size w w' := by
  refine (print_any itaE hkN 10 lv gv hkL hkG w hl hg hk_valid ita10 ?_).mono ?_
  · intro j hj hk
    have : j = 0 ∨ j = 1 ∨ j = 2 ∨ j = 3 ∨ j = 4 ∨ j = 5 ∨ j = 6 := by simp [hkL] at hj; omega
    rcases this with rfl | rfl | rfl | rfl | rfl | rfl | rfl
    · rw [show s16 (hkL.getD 0 0) = 16 by decide +kernel]; exact ita16
    · rw [show s16 (hkL.getD 1 0) = 16 by decide +kernel]; exact ita16
    · rw [show s16 (hkL.getD 2 0) = 16 by decide +kernel]; exact ita16
    · rw [show s16 (hkL.getD 3 0) = 80 by decide +kernel]; exact ita80
    · rw [show s16 (hkL.getD 4 0) = 24 by decide +kernel]; exact ita24
    · exact absurd hk (by decide +kernel)
    · rw [show s16 (hkL.getD 6 0) = 32 by decide +kernel]; exact ita32
  · rintro e w' ⟨rfl, h⟩
    rw [ex_text]
    exact ⟨rfl, h⟩
end Go.Proofs.YtkjgofknnhngdaaGreatDoor
