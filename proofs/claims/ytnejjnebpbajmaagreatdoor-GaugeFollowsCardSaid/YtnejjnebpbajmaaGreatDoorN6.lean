/-
  Plain words on marked ticks: what the reference's sweep picks is what Join, Meet and Minus choose. No program.
  Contracts of the reference's HasInt and marks. Conditions of marks: the marks lie in a row of the caller's own, the spans below it, no span ends behind the row, and the marks so far are 0 (for 1) or at most 1 (for 2).
  Rows of a call's own are apart from others; the cells of a block that is new. No program.
  The statements' rules: a copy of its own. Condition: at most 100000 rules.
  Contract of the reference's sweep over marked ticks. Conditions: both lists are canonical, and the wanted marks are those of a choice that takes no tick that is in no list.
  GaugeSpans for every two lists of spans.
-/
import Derived.Test.YtnejjnebpbajmaaGreatDoorZ2
import Derived.Test.YtnejjnebpbajmaaGreatDoorProg
import Derived.Test.YtnejjnebpbajmaaGreatDoorMI
import Derived.Test.YtnejjnebpbajmaaGreatDoorMD
import Derived.Test.YtnejjnebpbajmaaGreatDoorQ5
import Derived.Test.YtnejjnebpbajmaaGreatDoorME
import Derived.OwnWalk
import Derived.Test.YtnejjnebpbajmaaGreatDoorMN
import Derived.Test.YtnejjnebpbajmaaGreatDoorH2
import Derived.Test.YtnejjnebpbajmaaGreatDoorQS
import Derived.Test.YtnejjnebpbajmaaGreatDoorMR

namespace Go.Proofs.YtnejjnebpbajmaaGreatDoor
open Go.RowKit

/-- A row of marks, n more where p holds. -/
def stM (f : Nat → Int) (n : Int) (p : Nat → Bool) : Nat → Int := fun u => if p u = true then f u + n else f u
def mkL (N : Nat) (f : Nat → Int) : List Int := (List.range N).map f
theorem mkL_at (N : Nat) (f : Nat → Int) (u : Nat) (h : u < N) : ((mkL N f).map (Value.int .i64))[u]? = some (.int .i64 (f u)) := by simp [mkL, h]
theorem mkL_congr (N : Nat) (f g : Nat → Int) (h : ∀ u, u < N → f u = g u) : mkL N f = mkL N g := List.map_congr_left fun u hu => h u (by simpa using hu)
theorem mkL_set (N : Nat) (f g : Nat → Int) (u : Nat) (x : Int) (h1 : g u = x) (h2 : ∀ v, v ≠ u → g v = f v) : (mkL N f).set u x = mkL N g := by
  apply List.ext_getElem
  · simp [mkL]
  · intro i hi _
    simp only [mkL, List.getElem_set, List.getElem_map, List.getElem_range]
    by_cases h : u = i
    · subst h; rw [if_pos rfl, h1]
    · rw [if_neg h, h2 i (fun e => h e.symm)]
theorem mkL_zero (N : Nat) : (mkL N fun _ => 0).map (Value.int .i64) = List.replicate N (.int .i64 0) := by
  simp [mkL]
  apply List.ext_getElem <;> simp

/-- Ticks of the first k spans, and those of the next one below T. -/
def pIn (l : List (Int × Int)) (k T : Nat) : Nat → Bool := fun u => hasL (l.take k) u || (decide ((l.getD k (0, 0)).1 ≤ u) && decide (u < T))
theorem pIn_first (l : List (Int × Int)) (k A : Nat) (h : (l.getD k (0, 0)).1 = A) (u : Nat) : pIn l k A u = hasL (l.take k) u := by
  unfold pIn
  rw [h]
  have : (decide ((A : Int) ≤ (u : Int)) && decide (u < A)) = false := by simp
  rw [this, Bool.or_false]
theorem pIn_last (l : List (Int × Int)) (k B : Nat) (hk : k < l.length) (h : (l.getD k (0, 0)).2 = B) (u : Nat) : pIn l k B u = hasL (l.take (k + 1)) u := by
  unfold pIn
  rw [List.take_succ_eq_append_getElem hk, hasL_append]
  have e : l[k] = l.getD k (0, 0) := by simp [hk]
  rw [e]
  have : (decide (u < B)) = decide ((u : Int) < (l.getD k (0, 0)).2) := by rw [h]; simp
  rw [this]
  simp [hasL]
theorem pIn_at (l : List (Int × Int)) (k T : Nat) : pIn l k T T = hasL (l.take k) T := by
  unfold pIn
  simp
theorem pIn_self (l : List (Int × Int)) (k T : Nat) (h : (l.getD k (0, 0)).1 ≤ T) : pIn l k (T + 1) T = true := by
  unfold pIn
  rw [decide_eq_true h, decide_eq_true (Nat.lt_succ_self T)]
  simp
theorem pIn_other (l : List (Int × Int)) (k T u : Nat) (h : u ≠ T) : pIn l k (T + 1) u = pIn l k T u := by
  unfold pIn
  have : decide (u < T + 1) = decide (u < T) := by
    rw [decide_eq_decide]; omega
  rw [this]

/-- The marks of two lists. -/
def mm (a b : List (Int × Int)) : Nat → Int := stM (stM (fun _ => 0) 1 (fun u => hasL a u)) 2 (fun u => hasL b u)
theorem mm_is (a b : List (Int × Int)) (u : Nat) : mm a b u = (if hasL b u = true then 2 else 0) + (if hasL a u = true then 1 else 0) := by
  show (if hasL b u = true then (if hasL a u = true then (0 : Int) + 1 else 0) + 2 else (if hasL a u = true then (0 : Int) + 1 else 0)) = _
  cases hasL a u <;> cases hasL b u <;> rfl
def pkF (kp : Bool → Bool → Bool) (a b : List (Int × Int)) : Nat → Bool := fun u => kp (hasL a u) (hasL b u)
/-- The wanted marks are those of the choice. -/
def Wants (W : List Int) (kp : Bool → Bool → Bool) : Prop := ∀ x y : Bool, W.contains ((if y = true then 2 else 0) + (if x = true then (1 : Int) else 0)) = kp x y
theorem wants_meet : Wants [3] (fun x y => x && y) := by intro x y; cases x <;> cases y <;> decide
theorem wants_at {W : List Int} {kp : Bool → Bool → Bool} (h : Wants W kp) (a b : List (Int × Int)) (u : Nat) : W.contains (mm a b u) = pkF kp a b u := by
  rw [mm_is]; exact h _ _

theorem has_in (l : List (Int × Int)) (h : chkSpans l = 0) (x : Int) (hx : ¬ (0 ≤ x ∧ x < 100000)) : hasL l x = false := by
  rw [hasL_false]
  intro s hs hh
  have := (chkSpans_ok l h).2.1 s hs
  omega
theorem pick_is (kp : Bool → Bool → Bool) (h0 : kp false false = false) (a b : List (Int × Int)) (ha : chkSpans a = 0) (hb : chkSpans b = 0) (N : Nat) (hN : (N : Int) = 100000) : (pk (pkF kp a b) (N + 1)).1 = choice kp a b := by
  have hf : pkF kp a b N = false := by
    unfold pkF
    rw [has_in a ha _ (by omega), has_in b hb _ (by omega), h0]
  obtain ⟨h1, h2⟩ := pk_end (pkF kp a b) N hf
  refine choice_is kp h0 a b _ ha hb h1 fun t => ?_
  rw [h2]
  by_cases hr : 0 ≤ t ∧ t < (N : Int)
  · have e : (t.toNat : Int) = t := Int.toNat_of_nonneg hr.1
    simp only [hr.1, hr.2, decide_true, Bool.true_and]
    unfold pkF
    rw [e]
  · rw [has_in a ha _ (by omega), has_in b hb _ (by omega), h0]
    have : (decide (0 ≤ t) && decide (t < (N : Int))) = false := by
      rw [Bool.and_eq_false_iff, decide_eq_false_iff_not, decide_eq_false_iff_not]; omega
    rw [this, Bool.false_and]
end Go.Proofs.YtnejjnebpbajmaaGreatDoor

namespace Go.Proofs.YtnejjnebpbajmaaGreatDoor
open Go.RowKit

set_option maxRecDepth 1000000 in
set_option maxHeartbeats 2000000 in
theorem hasInt_any (sl : Value) (l : List Int) (n : Int) (w : World) (h : Rd w w.heap.size sl l.length (l.map (Value.int .i64))) :
    Calls Tryz.prog 86 #[sl, .int .i64 n] w fun e w' => e = .returned (.bool (l.contains n)) ∧ w = w' := by
  obtain ⟨A, c, rfl, hc1, hc2, hc⟩ := h
  unfold maxLen at hc2
  have HC := hd hc
  clear hc
  go_enter Tryz.func86, Tryz.ntmps86
  go_wp2
  go_loop [5] (fun i => ∃ k : Nat, k ≤ l.length ∧ i = .int .i64 k ∧ Hid (∀ x ∈ l.take k, ¬ x = n)) (fun i => l.length - (intOf i).toNat)
  case atStart => exact ⟨0, Nat.zero_le _, rfl, hd (fun s hs => by simp at hs)⟩
  case round =>
    obtain ⟨k, hk, rfl, HZ⟩ := hrel
    by_cases hlt : k < l.length
    · obtain ⟨b, off, rfl, hbb, hcell⟩ := HC.out (by omega)
      have hs0 : w.cell? ⟨b, off + k, none⟩ = some (.int .i64 l[k]) := (hcell k (by simpa using hlt)).trans (by simp [hlt])
      have HL := hd (List.take_succ_eq_append_getElem hlt)
      have HM := hd (List.getElem_mem hlt)
      clear hcell
      generalize hf : l[k] = f at hs0
      have HF := hd hf
      clear hf
      by_cases h1 : f = n
      · have HT := hd (show decide (f ∈ l) = true from by rw [decide_eq_true_iff, ← HF.out]; exact HM.out)
        subst h1
        go_wp2
        go_ret
        exact ⟨by rw [HT.out]; rfl, rfl⟩
      · have HN : Hid (∀ x ∈ l.take (k + 1), ¬ x = n) := fun s hs => by
          rw [HL.out, HF.out] at hs
          rcases List.mem_append.1 hs with hs | hs
          · exact HZ.out s hs
          · rw [List.mem_singleton] at hs; subst hs; exact h1
        have hne : (f == n) = false := by simpa using h1
        go_wp2
        go_round
        case rel => exact ⟨k + 1, by omega, by go_num, HN⟩
        case measure => simp [intOf]; omega
    · have hke : k = l.length := by omega
      have HT := hd (show decide (n ∈ l) = false from by
        have h := HZ.out
        rw [hke, List.take_length] at h
        rw [decide_eq_false_iff_not]
        exact fun hm => h n hm rfl)
      clear hke
      go_wp2
      go_ret
      exact ⟨by rw [HT.out]; rfl, rfl⟩

/-- The marks so far: none, or those of one list. -/
def Mk (n : Int) (x : Int) : Prop := (n = 1 ∧ x = 0) ∨ (n = 2 ∧ (x = 0 ∨ x = 1))

set_option maxRecDepth 1000000 in
set_option maxHeartbeats 8000000 in
theorem marks_any (sl : Value) (l : List (Int × Int)) (n : Int) (N g B : Nat) (f : Nat → Int) (w : World) (h : Rd w B sl l.length (spc l)) (hb : ∀ s ∈ l, 0 ≤ s.1 ∧ s.1 < s.2 ∧ s.2 ≤ (N : Int)) (hN : N ≤ 1000000)
    (hrow : w.ownsRow B 3 1 (.slice (some ⟨g, 0, none⟩) N N) N ((mkL N f).map (Value.int .i64))) (hf : ∀ u, Mk n (f u)) :
    Calls Tryz.prog 85 #[.slice (some ⟨g, 0, none⟩) N N, sl, .int .i64 n] w fun e w' => e = .returned (.tuple #[]) ∧ w'.ownsRow B 3 1 (.slice (some ⟨g, 0, none⟩) N N) N ((mkL N (stM f n fun u => hasL l u)).map (Value.int .i64)) ∧ Below B w w' := by
  obtain ⟨A, c, rfl, hc1, hc2, hc⟩ := h
  unfold maxLen at hc2
  have HC := hd hc
  have HF := hd hf
  have HB := hd hb
  have HG := hd (show B ≤ g from by have := (hrow.lt g rfl).1; omega)
  have HR := hd (show w.ownsRow B 3 1 (.slice (some ⟨g, 0, none⟩) N N) N ((mkL N (stM f n fun u => hasL (l.take 0) u)).map (Value.int .i64)) from by
    rw [mkL_congr N (stM f n fun u => hasL (l.take 0) u) f (fun u _ => by simp [stM, hasL])]; exact hrow)
  clear hc hf hb hrow
  go_enter Tryz.func85, Tryz.ntmps85
  go_wp2
  go_loopw [6] (fun i wr => ∃ k : Nat, k ≤ l.length ∧ i = .int .i64 k ∧ Hid (wr.ownsRow B 3 1 (.slice (some ⟨g, 0, none⟩) N N) N ((mkL N (stM f n fun u => hasL (l.take k) u)).map (Value.int .i64)) ∧ Below B w wr)) (fun i _ => l.length - (intOf i).toNat)
  case atStart => exact ⟨0, Nat.zero_le _, rfl, hd ⟨HR.out, Below.refl _ _⟩⟩
  case round =>
    obtain ⟨k, hk, rfl, HI⟩ := hrel
    by_cases hlt : k < l.length
    · obtain ⟨b, off, rfl, hbb, hcell⟩ := HC.out (by omega)
      obtain ⟨g1, g2⟩ := spc_getD l k hlt
      obtain ⟨b1, b2, b3⟩ := HB.out (l.getD k (0, 0)) (by simp [hlt])
      obtain ⟨P, hP⟩ : ∃ P : Nat, (l.getD k (0, 0)).1 = P := ⟨(l.getD k (0, 0)).1.toNat, by omega⟩
      obtain ⟨T, hT⟩ : ∃ T : Nat, (l.getD k (0, 0)).2 = T := ⟨(l.getD k (0, 0)).2.toNat, by omega⟩
      have C0 := hd (show w.cell? ⟨b, off + k * 2, none⟩ = some (.int .i64 P) from by rw [← hP]; exact (hcell (k * 2) (by rw [spc_len]; omega)).trans g1)
      have C1 := hd (show w.cell? ⟨b, off + k * 2 + 1, none⟩ = some (.int .i64 T) from by rw [← hT]; exact (hcell (k * 2 + 1) (by rw [spc_len]; omega)).trans g2)
      have hPT : P < T := by omega
      have hTN : T ≤ N := by omega
      have HP := hd hP
      have HT := hd hT
      clear hcell g1 g2 b1 b2 b3 hP hT
      have q0 := (HI.out.2.cell (p := ⟨b, off + k * 2, none⟩) hbb).trans C0.out
      have HJ := hd (show wr.ownsRow B 3 1 (.slice (some ⟨g, 0, none⟩) N N) N ((mkL N (stM f n (pIn l k P))).map (Value.int .i64)) ∧ Below B w wr from by
        rw [mkL_congr N (stM f n (pIn l k P)) (stM f n fun u => hasL (l.take k) u) (fun u _ => by unfold stM; rw [pIn_first l k P HP.out u])]; exact HI.out)
      clear HI HR
      go_wp2
      go_loopw [7] (fun t wr => ∃ t' : Nat, P ≤ t' ∧ t' ≤ T ∧ t = .int .i64 t' ∧ Hid (wr.ownsRow B 3 1 (.slice (some ⟨g, 0, none⟩) N N) N ((mkL N (stM f n (pIn l k t'))).map (Value.int .i64)) ∧ Below B w wr)) (fun t _ => T - (intOf t).toNat)
      case atStart => exact ⟨P, Nat.le_refl _, by omega, rfl, HJ⟩
      case round =>
        obtain ⟨t, ht1, ht2, rfl, HI⟩ := hrel
        have q1 := (HI.out.2.cell (p := ⟨b, off + k * 2 + 1, none⟩) hbb).trans C1.out
        by_cases hlt2 : t < T
        · have q2 := HI.out.1.cellAt t (by omega)
          have q3 := HI.out.1.frozenAt t
          rw [mkL_at N _ t (by omega)] at q2
          have hpt := pIn_at l k t
          have HX := hd (show ∀ x, stM f n (pIn l k t) t = x → (stM f n (pIn l k t) t = f t + n → mkL N (stM f n (pIn l k (t + 1))) = mkL N (stM f n (pIn l k t))) ∧ (mkL N (stM f n (pIn l k t))).set t (f t + n) = mkL N (stM f n (pIn l k (t + 1))) from fun x _ => by
            have e1 : stM f n (pIn l k (t + 1)) t = f t + n := by unfold stM; rw [pIn_self l k t (by have := HP.out; omega), if_pos rfl]
            have e2 : ∀ v, v ≠ t → stM f n (pIn l k (t + 1)) v = stM f n (pIn l k t) v := fun v hv => by unfold stM; rw [pIn_other l k t v hv]
            refine ⟨fun e => mkL_congr N _ _ fun u _ => ?_, mkL_set N _ _ t _ e1 e2⟩
            by_cases hu : u = t
            · rw [hu, e1, e]
            · exact e2 u hu)
          have hm := HF.out t
          obtain ⟨y, hy⟩ : ∃ y, y = f t := ⟨_, rfl⟩
          rw [← hy] at hm HX
          by_cases hin : pIn l k t t = true
          · have e : stM f n (pIn l k t) t = y + n := by unfold stM; rw [if_pos hin, hy]
            have HS := hd ((HX.out _ rfl).1 e)
            rw [e] at q2
            have HI2 := hd (show wr.ownsRow B 3 1 (.slice (some ⟨g, 0, none⟩) N N) N ((mkL N (stM f n (pIn l k (t + 1)))).map (Value.int .i64)) ∧ Below B w wr from by rw [HS.out]; exact HI.out)
            clear HX hpt hy e hin HI HS
            have hlt3 : (t : Int) < (T : Int) := by omega
            have htN : t < N := by omega
            rcases hm with ⟨rfl, rfl⟩ | ⟨rfl, rfl | rfl⟩
            · go_wp2
              go_roundw
              case rel => exact ⟨t + 1, by omega, by omega, by go_num, HI2⟩
              case measure => simp [intOf]; omega
            · go_wp2
              go_roundw
              case rel => exact ⟨t + 1, by omega, by omega, by go_num, HI2⟩
              case measure => simp [intOf]; omega
            · go_wp2
              go_roundw
              case rel => exact ⟨t + 1, by omega, by omega, by go_num, HI2⟩
              case measure => simp [intOf]; omega
          · have e : stM f n (pIn l k t) t = y := by unfold stM; rw [if_neg hin, hy]
            have HS := hd ((HX.out _ rfl).2)
            rw [e] at q2
            have HI2 := hd (show (wr.setCell ⟨g, t, none⟩ (.int .i64 (y + n))).ownsRow B 3 1 (.slice (some ⟨g, 0, none⟩) N N) N ((mkL N (stM f n (pIn l k (t + 1)))).map (Value.int .i64)) ∧ Below B w (wr.setCell ⟨g, t, none⟩ (.int .i64 (y + n))) from
              ⟨by have h := (HI.out.1.stored t (.int .i64 (y + n))).1; rw [← HS.out, List.map_set]; exact h, HI.out.2.setCell (p := ⟨g, t, none⟩) HG.out _⟩)
            clear HX hpt hy e hin HI HS
            have hlt3 : (t : Int) < (T : Int) := by omega
            have htN : t < N := by omega
            rcases hm with ⟨rfl, rfl⟩ | ⟨rfl, rfl | rfl⟩
            · go_wp2
              go_roundw
              case rel => exact ⟨t + 1, by omega, by omega, by go_num, HI2⟩
              case measure => simp [intOf]; omega
            · go_wp2
              go_roundw
              case rel => exact ⟨t + 1, by omega, by omega, by go_num, HI2⟩
              case measure => simp [intOf]; omega
            · go_wp2
              go_roundw
              case rel => exact ⟨t + 1, by omega, by omega, by go_num, HI2⟩
              case measure => simp [intOf]; omega
        · have hte : t = T := by omega
          subst hte
          have HK := hd (show wr.ownsRow B 3 1 (.slice (some ⟨g, 0, none⟩) N N) N ((mkL N (stM f n fun u => hasL (l.take (k + 1)) u)).map (Value.int .i64)) ∧ Below B w wr from by
            rw [mkL_congr N (stM f n fun u => hasL (l.take (k + 1)) u) (stM f n (pIn l k t)) (fun u _ => by unfold stM; rw [pIn_last l k t hlt HT.out u])]; exact HI.out)
          clear HI HJ
          go_wp2
          go_roundw
          case rel => exact ⟨k + 1, by omega, by go_num, HK⟩
          case measure => simp [intOf]; omega
    · have hke : k = l.length := by omega
      have HK := hd (show wr.ownsRow B 3 1 (.slice (some ⟨g, 0, none⟩) N N) N ((mkL N (stM f n fun u => hasL l u)).map (Value.int .i64)) ∧ Below B w wr from by
        have h := HI.out
        rw [hke, List.take_length] at h
        exact h)
      clear HI hke
      go_wp2
      go_returns
      exact ⟨rfl, HK.out.1, HK.out.2⟩
end Go.Proofs.YtnejjnebpbajmaaGreatDoor

namespace Go.Proofs.YtnejjnebpbajmaaGreatDoor
open Go.RowKit

theorem own_ne {W : World} {B1 B2 : Nat} {e1 e2 : TypeId} {s1 s2 : Nat} {v1 v2 : Value} {n1 n2 : Nat} {xs1 xs2 : List Value} (h1 : W.ownsRow B1 e1 s1 v1 n1 xs1) (h2 : W.ownsRow B2 e2 s2 v2 n2 xs2) (he : e1 ≠ e2) : v1.ownBlock = none ∨ v1.ownBlock ≠ v2.ownBlock := by
  rcases h1.2 with ⟨rfl, _⟩ | ⟨g, cap, cur, rfl, _, hg, _⟩
  · exact .inl rfl
  · exact .inr fun h => blk_not_row hg he h2 (by simpa [Value.ownBlock] using h)
end Go.Proofs.YtnejjnebpbajmaaGreatDoor

namespace Go.Proofs.YtnejjnebpbajmaaGreatDoor
open Go.RowKit
attribute [local go_sem] Oper.semAt_some

end Go.Proofs.YtnejjnebpbajmaaGreatDoor

namespace Go.Proofs.YtnejjnebpbajmaaGreatDoor
open Go.RowKit
attribute [local go_sem] Oper.semAt_some

theorem spc_snoc' (l : List (Int × Int)) (f t : Int) : spc l ++ [.int .i64 f, .int .i64 t] = spc (l ++ [(f, t)]) := by simp [spc]

set_option maxRecDepth 1000000 in
set_option maxHeartbeats 8000000 in
theorem picked_any (sa sb sw : Value) (a b : List (Int × Int)) (W : List Int) (kp : Bool → Bool → Bool) (w : World) (ha : Rd w w.heap.size sa a.length (spc a)) (hb : Rd w w.heap.size sb b.length (spc b)) (hw : Rd w w.heap.size sw W.length (W.map (Value.int .i64)))
    (h0a : chkSpans a = 0) (h0b : chkSpans b = 0) (hW : Wants W kp) (h0 : kp false false = false) :
    Calls Tryz.prog 44 #[sa, sb, sw] w (OwnsSp w.heap.size (choice kp a b) w) := by
  obtain ⟨i0, hi, hz0, hz1, hz2⟩ := info_parts intInfo
  obtain ⟨j0, hj, hy0, hy1, hy2⟩ := info_parts spanInfo
  obtain ⟨N, hN⟩ : ∃ N : Nat, N = 100001 := ⟨_, rfl⟩
  have hN' : (100001 : Int) = (N : Int) := by omega
  have HN := hd hN'
  have HJ := hd (And.intro hj (And.intro hy0 (And.intro hy1 hy2)))
  have HBY := hd (show i0.bytes * N ≤ 281474976710656 by rw [hz2]; omega)
  have HMX := hd (show N ≤ maxLen by unfold maxLen; omega)
  have HA := hd ha
  have HB := hd hb
  have HW := hd hw
  have HS := hd (show (∀ s ∈ a, 0 ≤ s.1 ∧ s.1 < s.2 ∧ s.2 ≤ (N : Int)) ∧ (∀ s ∈ b, 0 ≤ s.1 ∧ s.1 < s.2 ∧ s.2 ≤ (N : Int)) from
    ⟨fun s hs => by have := (chkSpans_ok a h0a).2.1 s hs; omega, fun s hs => by have := (chkSpans_ok b h0b).2.1 s hs; omega⟩)
  have HNN := hd (show N ≤ 1000000 by omega)
  have HF := hd (fun u => wants_at hW a b u)
  have HZ := hd (fun u (h : mm a b u = 0) => show pkF kp a b u = false from by
    have h' := mm_is a b u
    rw [h] at h'
    unfold pkF
    cases h1 : hasL a u <;> cases h2 : hasL b u <;> simp [h1, h2] at h' ⊢
    exact h0)
  have HE := hd (show (pk (pkF kp a b) N).1 = choice kp a b from by
    have e : N = (N - 1) + 1 := by omega
    rw [e]
    exact pick_is kp h0 a b h0a h0b (N - 1) (by omega))
  obtain ⟨A1, c1, rfl, -⟩ := ha
  obtain ⟨A2, c2, rfl, -⟩ := hb
  obtain ⟨A3, c3, rfl, -⟩ := hw
  clear h0a h0b hW h0 hN' hN hj hy0 hy1 hy2
  go_enter Tryz.func44, Tryz.ntmps44
  go_wp2_with (at_make; refine wpList_make_full _ rfl _ _ 50 rfl w.heap.size 3 i0 (.int .i64 0) 1 Tryz.underlying50 hi hz0 hz1 .i64 .i64 (100001 : Int) (100001 : Int) N rfl rfl HN.out HN.out HBY.out HMX.out (Nat.le_refl _) ?_; intro w5 hown5 hgrow5; have HO5 := hd (And.intro hown5 hgrow5); clear hown5 hgrow5)
  have HO := hd (show w5.ownsRow w.heap.size 3 1 (.slice (some ⟨w.heap.size, 0, none⟩) N N) N ((mkL N (fun _ => 0)).map (Value.int .i64)) ∧ Below w.heap.size w w5 from by
    obtain ⟨h1, h2⟩ := HO5.out
    refine ⟨?_, (Below.refl _ w).grown h2 (Nat.le_refl _) (fun _ h => by cases h)⟩
    have e : (madeCells (Value.int .i64 0).cells (N * 1)).toList = List.replicate N (Value.int .i64 0) := by
      rw [show (Value.int .i64 0).cells = #[Value.int .i64 0] from rfl, toList_madeCells_one]; simp
    rw [mkL_zero, ← e]; exact h1)
  clear HO5
  go_wp2_with fail
  refine (marks_any _ a 1 N w.heap.size w.heap.size (fun _ => 0) w5 (HA.out.below HO.out.2 (Nat.le_refl _)) HS.out.1 HNN.out HO.out.1 (fun _ => .inl ⟨rfl, rfl⟩)).mono ?_
  rintro e w6 ⟨rfl, ho6, hb6⟩
  have HO6 := hd (And.intro ho6 (HO.out.2.trans hb6))
  clear ho6 hb6 HO
  go_wp2_with fail
  refine (marks_any _ b 2 N w.heap.size w.heap.size _ w6 (HB.out.below HO6.out.2 (Nat.le_refl _)) HS.out.2 HNN.out HO6.out.1 (fun u => .inr ⟨rfl, by unfold stM; split; exact .inr rfl; exact .inl rfl⟩)).mono ?_
  rintro e w7 ⟨rfl, ho7, hb7⟩
  have HO7 := hd (show w7.ownsRow w.heap.size 3 1 (.slice (some ⟨w.heap.size, 0, none⟩) N N) N ((mkL N (mm a b)).map (Value.int .i64)) ∧ Below w.heap.size w w7 from And.intro ho7 (HO6.out.2.trans hb7))
  clear ho7 hb7 HO6
  go_wp2
  go_loopw [8, 9, 10] (fun o fr t wr => ∃ k : Nat, k ≤ N ∧ t = .int .i64 k ∧ fr = .int .i64 (pk (pkF kp a b) k).2 ∧ Hid (wr.ownsRow w.heap.size 40 2 o (pk (pkF kp a b) k).1.length (spc (pk (pkF kp a b) k).1)) ∧ Hid (wr.ownsRow w.heap.size 3 1 (.slice (some ⟨w.heap.size, 0, none⟩) N N) N ((mkL N (mm a b)).map (Value.int .i64)) ∧ Below w.heap.size w wr)) (fun _ _ t _ => N - (intOf t).toNat)
  case atStart => exact ⟨0, Nat.zero_le _, rfl, rfl, hd (World.ownsRow_nil _ _ _ _), HO7⟩
  case round =>
    obtain ⟨k, hk, rfl, rfl, HO, HM⟩ := hrel
    clear HO7
    obtain ⟨A5, c5, hv5, -⟩ := own_form HO.out
    subst hv5
    by_cases hlt : k < N
    · have hk1 : (k : Int) ≤ 100000 := by have := HN.out; omega
      have hkN : (k : Int) < (N : Int) := by omega
      have q0 := HM.out.1.cellAt k (by omega)
      rw [mkL_at N _ k hlt] at q0
      have HK := hd (show pk (pkF kp a b) (k + 1) = stp (pkF kp a b k) k (pk (pkF kp a b) k) from rfl)
      have hfk := HF.out k
      have hzk := HZ.out k
      have hpk := (pk_ok (pkF kp a b) k)
      obtain ⟨-, -, hp1, hp2, -⟩ := hpk
      have hpl := pk_len (pkF kp a b) k
      have hw3 : Rd wr wr.heap.size (.slice A3 W.length c3) W.length (W.map (Value.int .i64)) := (HW.out.below HM.out.2 (Nat.le_refl _)).mono HM.out.2.size
      generalize mm a b k = x at q0 hfk hzk
      generalize hin : pkF kp a b k = bk at hfk hzk HK
      clear hin
      generalize pk (pkF kp a b) k = p at *
      obtain ⟨L, fr⟩ := p
      dsimp only at *
      have HW3 := hd hw3
      have HPL := hd (show L.length + 1 ≤ maxLen by unfold maxLen; omega)
      have HPB := hd (show (L.length + 1) * 16 ≤ 140737488355328 by omega)
      clear hw3 hpl
      have CI := hasInt_any (.slice A3 W.length c3) W x wr HW3.out
      rw [hfk] at CI
      have HCI := hd CI
      clear CI hfk
      by_cases hx0 : x = 0
      · obtain rfl : bk = false := hzk hx0
        subst hx0
        by_cases hfr : fr < 0
        · have HKe := hd (show pk (pkF kp a b) (k + 1) = (L, fr) from by rw [HK.out]; simp [stp, hfr])
          clear HK hzk
          go_wp2
          go_roundw
          case rel => exact ⟨k + 1, by omega, by go_num, by rw [HKe.out], by rw [HKe.out]; exact HO, HM⟩
          case measure => simp [intOf]; omega
        · have hfr0 : 0 ≤ fr := by omega
          have HKe := hd (show pk (pkF kp a b) (k + 1) = (L ++ [(fr, (k : Int))], -1) from by rw [HK.out]; simp [stp, hfr])
          clear HK hzk
          go_wp2_with (at_builtin; refine wpList_append_own _ rfl (.tmp 48) (.tmp 52) 23 rfl w.heap.size 40 j0 (.agg #[.int .i64 0, .int .i64 0]) 2 16 Tryz.underlying23 HJ.out.1 HJ.out.2.1 HJ.out.2.2.1 HJ.out.2.2.2 rfl (by decide) (.slice A5 L.length c5) L.length (spc L) rfl ?c0 ⟨wr.heap.size, 0, none⟩ 1 1 [.int .i64 fr, .int .i64 k] rfl rfl ?c1 ?c2 ?c3 ?c4 ?c5 ?_)
          case c0 => exact HO.out.alloc _
          case c2 => first | exact ⟨rfl, rfl⟩ | exact one_spc [(fr, (k : Int))]
          case c3 => exact HPL.out
          case c4 => exact HPB.out
          case c5 => have := HM.out.2.size; first | omega | (simp; omega)
          intro v' w8 hown8 hg8 _
          have HO8 := hd (show w8.ownsRow w.heap.size 40 2 v' (L ++ [(fr, (k : Int))]).length (spc (L ++ [(fr, (k : Int))])) from by rw [← spc_snoc', List.length_append]; exact hown8)
          have HM8 := hd (And.intro ((HM.out.1.alloc _).kept hg8 (own_ne HM.out.1 HO.out (by decide))) ((HM.out.2.alloc HM.out.2.size _).trans (gb_below hg8 (HM.out.2.alloc HM.out.2.size _).size (fun kk hk => (HO.out.lt kk hk).1))))
          clear hown8 hg8 HO HM
          go_wp2
          go_roundw
          case rel => exact ⟨k + 1, by omega, by go_num, by rw [HKe.out], by rw [HKe.out]; exact HO8, HM8⟩
          case measure => simp [intOf]; omega
      · have hx1 : (x != 0) = true := by simpa using hx0
        clear hx0
        cases bk
        · by_cases hfr : fr < 0
          · have HKe := hd (show pk (pkF kp a b) (k + 1) = (L, fr) from by rw [HK.out]; simp [stp, hfr])
            clear HK hzk
            go_wp2_with (go_at_call 86; refine HCI.out.mono ?_; rintro e w' ⟨rfl, rfl⟩)
            go_roundw
            case rel => exact ⟨k + 1, by omega, by go_num, by rw [HKe.out], by rw [HKe.out]; exact HO, HM⟩
            case measure => simp [intOf]; omega
          · have hfr0 : 0 ≤ fr := by omega
            have HKe := hd (show pk (pkF kp a b) (k + 1) = (L ++ [(fr, (k : Int))], -1) from by rw [HK.out]; simp [stp, hfr])
            clear HK hzk
            go_wp2_with fail
            refine HCI.out.mono ?_
            rintro e w' ⟨rfl, rfl⟩
            go_wp2_with (at_builtin; refine wpList_append_own _ rfl (.tmp 48) (.tmp 52) 23 rfl w.heap.size 40 j0 (.agg #[.int .i64 0, .int .i64 0]) 2 16 Tryz.underlying23 HJ.out.1 HJ.out.2.1 HJ.out.2.2.1 HJ.out.2.2.2 rfl (by decide) (.slice A5 L.length c5) L.length (spc L) rfl ?c0 ⟨wr.heap.size, 0, none⟩ 1 1 [.int .i64 fr, .int .i64 k] rfl rfl ?c1 ?c2 ?c3 ?c4 ?c5 ?_)
            case c0 => exact HO.out.alloc _
            case c2 => first | exact ⟨rfl, rfl⟩ | exact one_spc [(fr, (k : Int))]
            case c3 => exact HPL.out
            case c4 => exact HPB.out
            case c5 => have := HM.out.2.size; first | omega | (simp; omega)
            intro v' w8 hown8 hg8 _
            have HO8 := hd (show w8.ownsRow w.heap.size 40 2 v' (L ++ [(fr, (k : Int))]).length (spc (L ++ [(fr, (k : Int))])) from by rw [← spc_snoc', List.length_append]; exact hown8)
            have HM8 := hd (And.intro ((HM.out.1.alloc _).kept hg8 (own_ne HM.out.1 HO.out (by decide))) ((HM.out.2.alloc HM.out.2.size _).trans (gb_below hg8 (HM.out.2.alloc HM.out.2.size _).size (fun kk hk => (HO.out.lt kk hk).1))))
            clear hown8 hg8 HO HM
            go_wp2
            go_roundw
            case rel => exact ⟨k + 1, by omega, by go_num, by rw [HKe.out], by rw [HKe.out]; exact HO8, HM8⟩
            case measure => simp [intOf]; omega
        · by_cases hfr : fr < 0
          · have HKe := hd (show pk (pkF kp a b) (k + 1) = (L, (k : Int)) from by rw [HK.out]; simp [stp, hfr])
            clear HK hzk
            go_wp2_with (go_at_call 86; refine HCI.out.mono ?_; rintro e w' ⟨rfl, rfl⟩)
            go_roundw
            case rel => exact ⟨k + 1, by omega, by go_num, by rw [HKe.out], by rw [HKe.out]; exact HO, HM⟩
            case measure => simp [intOf]; omega
          · have HKe := hd (show pk (pkF kp a b) (k + 1) = (L, fr) from by rw [HK.out]; simp [stp, hfr])
            clear HK hzk
            go_wp2_with (go_at_call 86; refine HCI.out.mono ?_; rintro e w' ⟨rfl, rfl⟩)
            go_roundw
            case rel => exact ⟨k + 1, by omega, by go_num, by rw [HKe.out], by rw [HKe.out]; exact HO, HM⟩
            case measure => simp [intOf]; omega
    · have hke : k = N := by omega
      subst hke
      have hk1 : ¬ (k : Int) ≤ 100000 := by have := HN.out; omega
      have HO9 := hd (show wr.ownsRow w.heap.size 40 2 (.slice A5 (pk (pkF kp a b) k).1.length c5) (choice kp a b).length (spc (choice kp a b)) from by rw [← HE.out]; exact HO.out)
      go_wp2
      go_returns
      exact ⟨_, rfl, HO9.out, HM.out.2⟩
end Go.Proofs.YtnejjnebpbajmaaGreatDoor

namespace Go.Proofs.YtnejjnebpbajmaaGreatDoor
open Go.RowKit
attribute [local go_sem] Oper.semAt_some

set_option maxRecDepth 1000000 in
set_option maxHeartbeats 1000000 in
theorem refMeet_any (sa sb : Value) (a b : List (Int × Int)) (w : World) (ha : Rd w w.heap.size sa a.length (spc a)) (hb : Rd w w.heap.size sb b.length (spc b)) (h0a : chkSpans a = 0) (h0b : chkSpans b = 0) :
    Calls Tryz.prog 12 #[sa, sb] w (OwnsSp w.heap.size (choice (fun x y => x && y) a b) w) := by
  have hb0 := hd ((Below.refl w.heap.size w).alloc (Nat.le_refl _) (.cells #[.int .i64 3] 3))
  have RA := hd ((ha.below hb0.out (Nat.le_refl _)).mono hb0.out.size)
  have RB := hd ((hb.below hb0.out (Nat.le_refl _)).mono hb0.out.size)
  have RW := hd (Rd.new w #[.int .i64 3] 3 1 [.int .i64 3] rfl (by decide))
  have HZ := hd (And.intro h0a h0b)
  obtain ⟨A1, c1, rfl, -⟩ := ha
  obtain ⟨A2, c2, rfl, -⟩ := hb
  clear h0a h0b
  go_enter Tryz.func12, Tryz.ntmps12
  go_wp2_with fail
  refine (picked_any _ _ _ a b [3] _ _ RA.out RB.out RW.out HZ.out.1 HZ.out.2 wants_meet rfl).mono ?_
  rintro e w1 ⟨v, rfl, hv, hbb⟩
  have HV := hd (And.intro (own_base hv hb0.out.size) (hb0.out.trans (hbb.mono hb0.out.size)))
  clear hv hbb
  go_wp2
  go_returns
  exact ⟨v, rfl, HV.out.1, HV.out.2⟩

end Go.Proofs.YtnejjnebpbajmaaGreatDoor
