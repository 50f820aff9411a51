/-
  Contracts of the reference's HasInt and marks. Conditions of marks: the marks lie in a row of the caller's own, the spans below it, no span ends behind the row, and the marks so far are 0 (for 1) or at most 1 (for 2).
-/
import Derived.Test.YtmcgkpfbehlpcaaGreatDoorProg
import Derived.Test.YtmcgkpfbehlpcaaGreatDoorN2
import Derived.Test.YtmcgkpfbehlpcaaGreatDoorMI
namespace Go.Proofs.YtmcgkpfbehlpcaaGreatDoor
open Go.RowKit

set_option maxRecDepth 1000000 in
set_option maxHeartbeats 2000000 in
theorem hasInt_any (sl : Value) (l : List Int) (n : Int) (w : World) (h : Rd w w.heap.size sl l.length (l.map (Value.int .i64))) :
    Calls Tryz.prog 109 #[sl, .int .i64 n] w fun e w' => e = .returned (.bool (l.contains n)) ∧ w = w' := by
  obtain ⟨A, c, rfl, hc1, hc2, hc⟩ := h
  unfold maxLen at hc2
  have HC := hd hc
  clear hc
  go_enter Tryz.func109, Tryz.ntmps109
  go_wp2
  go_loop [5] (fun i => ∃ k : Nat, k ≤ l.length ∧ i = .int .i64 k ∧ Hid (∀ x ∈ l.take k, ¬ x = n)) (fun i => l.length - (intOf i).toNat)
  case atStart => exact ⟨0, Nat.zero_le _, rfl, hd (fun s hs => by simp at hs)⟩
  case round =>
    obtain ⟨k, hk, rfl, HZ⟩ := hrel
    by_cases hlt : k < l.length
    · obtain ⟨b, off, rfl, hbb, hcell⟩ := HC.out (by omega)
      have hs0 : w.cell? ⟨b, off + k, none⟩ = some (.int .i64 l[k]) := (hcell k (by simpa using hlt)).trans (by simp [hlt])
      have HL := hd (List.take_succ_eq_append_getElem hlt)
      have HM := hd (List.getElem_mem hlt)
      clear hcell
      generalize hf : l[k] = f at hs0
      have HF := hd hf
      clear hf
      by_cases h1 : f = n
      · have HT := hd (show decide (f ∈ l) = true from by rw [decide_eq_true_iff, ← HF.out]; exact HM.out)
        subst h1
        go_wp2
        go_ret
        exact ⟨by rw [HT.out]; rfl, rfl⟩
      · have HN : Hid (∀ x ∈ l.take (k + 1), ¬ x = n) := fun s hs => by
          rw [HL.out, HF.out] at hs
          rcases List.mem_append.1 hs with hs | hs
          · exact HZ.out s hs
          · rw [List.mem_singleton] at hs; subst hs; exact h1
        have hne : (f == n) = false := by simpa using h1
        go_wp2
        go_round
        case rel => exact ⟨k + 1, by omega, by go_num, HN⟩
        case measure => simp [intOf]; omega
    · have hke : k = l.length := by omega
      have HT := hd (show decide (n ∈ l) = false from by
        have h := HZ.out
        rw [hke, List.take_length] at h
        rw [decide_eq_false_iff_not]
        exact fun hm => h n hm rfl)
      clear hke
      go_wp2
      go_ret
      exact ⟨by rw [HT.out]; rfl, rfl⟩

/-- The marks so far: none, or those of one list. -/
def Mk (n : Int) (x : Int) : Prop := (n = 1 ∧ x = 0) ∨ (n = 2 ∧ (x = 0 ∨ x = 1))

set_option maxRecDepth 1000000 in
set_option maxHeartbeats 8000000 in
theorem marks_any (sl : Value) (l : List (Int × Int)) (n : Int) (N g B : Nat) (f : Nat → Int) (w : World) (h : Rd w B sl l.length (spc l)) (hb : ∀ s ∈ l, 0 ≤ s.1 ∧ s.1 < s.2 ∧ s.2 ≤ (N : Int)) (hN : N ≤ 1000000)
    (hrow : w.ownsRow B 3 1 (.slice (some ⟨g, 0, none⟩) N N) N ((mkL N f).map (Value.int .i64))) (hf : ∀ u, Mk n (f u)) :
    Calls Tryz.prog 108 #[.slice (some ⟨g, 0, none⟩) N N, sl, .int .i64 n] w fun e w' => e = .returned (.tuple #[]) ∧ w'.ownsRow B 3 1 (.slice (some ⟨g, 0, none⟩) N N) N ((mkL N (stM f n fun u => hasL l u)).map (Value.int .i64)) ∧ Below B w w' := by
  obtain ⟨A, c, rfl, hc1, hc2, hc⟩ := h
  unfold maxLen at hc2
  have HC := hd hc
  have HF := hd hf
  have HB := hd hb
  have HG := hd (show B ≤ g from by have := (hrow.lt g rfl).1; omega)
  have HR := hd (show w.ownsRow B 3 1 (.slice (some ⟨g, 0, none⟩) N N) N ((mkL N (stM f n fun u => hasL (l.take 0) u)).map (Value.int .i64)) from by
    rw [mkL_congr N (stM f n fun u => hasL (l.take 0) u) f (fun u _ => by simp [stM, hasL])]; exact hrow)
  clear hc hf hb hrow
  go_enter Tryz.func108, Tryz.ntmps108
  go_wp2
  go_loopw [6] (fun i wr => ∃ k : Nat, k ≤ l.length ∧ i = .int .i64 k ∧ Hid (wr.ownsRow B 3 1 (.slice (some ⟨g, 0, none⟩) N N) N ((mkL N (stM f n fun u => hasL (l.take k) u)).map (Value.int .i64)) ∧ Below B w wr)) (fun i _ => l.length - (intOf i).toNat)
  case atStart => exact ⟨0, Nat.zero_le _, rfl, hd ⟨HR.out, Below.refl _ _⟩⟩
  case round =>
    obtain ⟨k, hk, rfl, HI⟩ := hrel
    by_cases hlt : k < l.length
    · obtain ⟨b, off, rfl, hbb, hcell⟩ := HC.out (by omega)
      obtain ⟨g1, g2⟩ := spc_getD l k hlt
      obtain ⟨b1, b2, b3⟩ := HB.out (l.getD k (0, 0)) (by simp [hlt])
      obtain ⟨P, hP⟩ : ∃ P : Nat, (l.getD k (0, 0)).1 = P := ⟨(l.getD k (0, 0)).1.toNat, by omega⟩
      obtain ⟨T, hT⟩ : ∃ T : Nat, (l.getD k (0, 0)).2 = T := ⟨(l.getD k (0, 0)).2.toNat, by omega⟩
      have C0 := hd (show w.cell? ⟨b, off + k * 2, none⟩ = some (.int .i64 P) from by rw [← hP]; exact (hcell (k * 2) (by rw [spc_len]; omega)).trans g1)
      have C1 := hd (show w.cell? ⟨b, off + k * 2 + 1, none⟩ = some (.int .i64 T) from by rw [← hT]; exact (hcell (k * 2 + 1) (by rw [spc_len]; omega)).trans g2)
      have hPT : P < T := by omega
      have hTN : T ≤ N := by omega
      have HP := hd hP
      have HT := hd hT
      clear hcell g1 g2 b1 b2 b3 hP hT
      have q0 := (HI.out.2.cell (p := ⟨b, off + k * 2, none⟩) hbb).trans C0.out
      have HJ := hd (show wr.ownsRow B 3 1 (.slice (some ⟨g, 0, none⟩) N N) N ((mkL N (stM f n (pIn l k P))).map (Value.int .i64)) ∧ Below B w wr from by
        rw [mkL_congr N (stM f n (pIn l k P)) (stM f n fun u => hasL (l.take k) u) (fun u _ => by unfold stM; rw [pIn_first l k P HP.out u])]; exact HI.out)
      clear HI HR
      go_wp2
      go_loopw [7] (fun t wr => ∃ t' : Nat, P ≤ t' ∧ t' ≤ T ∧ t = .int .i64 t' ∧ Hid (wr.ownsRow B 3 1 (.slice (some ⟨g, 0, none⟩) N N) N ((mkL N (stM f n (pIn l k t'))).map (Value.int .i64)) ∧ Below B w wr)) (fun t _ => T - (intOf t).toNat)
      case atStart => exact ⟨P, Nat.le_refl _, by omega, rfl, HJ⟩
      case round =>
        obtain ⟨t, ht1, ht2, rfl, HI⟩ := hrel
        have q1 := (HI.out.2.cell (p := ⟨b, off + k * 2 + 1, none⟩) hbb).trans C1.out
        by_cases hlt2 : t < T
        · have q2 := HI.out.1.cellAt t (by omega)
          have q3 := HI.out.1.frozenAt t
          rw [mkL_at N _ t (by omega)] at q2
          have hpt := pIn_at l k t
          have HX := hd (show ∀ x, stM f n (pIn l k t) t = x → (stM f n (pIn l k t) t = f t + n → mkL N (stM f n (pIn l k (t + 1))) = mkL N (stM f n (pIn l k t))) ∧ (mkL N (stM f n (pIn l k t))).set t (f t + n) = mkL N (stM f n (pIn l k (t + 1))) from fun x _ => by
            have e1 : stM f n (pIn l k (t + 1)) t = f t + n := by unfold stM; rw [pIn_self l k t (by have := HP.out; omega), if_pos rfl]
            have e2 : ∀ v, v ≠ t → stM f n (pIn l k (t + 1)) v = stM f n (pIn l k t) v := fun v hv => by unfold stM; rw [pIn_other l k t v hv]
            refine ⟨fun e => mkL_congr N _ _ fun u _ => ?_, mkL_set N _ _ t _ e1 e2⟩
            by_cases hu : u = t
            · rw [hu, e1, e]
            · exact e2 u hu)
          have hm := HF.out t
          obtain ⟨y, hy⟩ : ∃ y, y = f t := ⟨_, rfl⟩
          rw [← hy] at hm HX
          by_cases hin : pIn l k t t = true
          · have e : stM f n (pIn l k t) t = y + n := by unfold stM; rw [if_pos hin, hy]
            have HS := hd ((HX.out _ rfl).1 e)
            rw [e] at q2
            have HI2 := hd (show wr.ownsRow B 3 1 (.slice (some ⟨g, 0, none⟩) N N) N ((mkL N (stM f n (pIn l k (t + 1)))).map (Value.int .i64)) ∧ Below B w wr from by rw [HS.out]; exact HI.out)
            clear HX hpt hy e hin HI HS
            have hlt3 : (t : Int) < (T : Int) := by omega
            have htN : t < N := by omega
            rcases hm with ⟨rfl, rfl⟩ | ⟨rfl, rfl | rfl⟩
            · go_wp2
              go_roundw
              case rel => exact ⟨t + 1, by omega, by omega, by go_num, HI2⟩
              case measure => simp [intOf]; omega
            · go_wp2
              go_roundw
              case rel => exact ⟨t + 1, by omega, by omega, by go_num, HI2⟩
              case measure => simp [intOf]; omega
            · go_wp2
              go_roundw
              case rel => exact ⟨t + 1, by omega, by omega, by go_num, HI2⟩
              case measure => simp [intOf]; omega
          · have e : stM f n (pIn l k t) t = y := by unfold stM; rw [if_neg hin, hy]
            have HS := hd ((HX.out _ rfl).2)
            rw [e] at q2
            have HI2 := hd (show (wr.setCell ⟨g, t, none⟩ (.int .i64 (y + n))).ownsRow B 3 1 (.slice (some ⟨g, 0, none⟩) N N) N ((mkL N (stM f n (pIn l k (t + 1)))).map (Value.int .i64)) ∧ Below B w (wr.setCell ⟨g, t, none⟩ (.int .i64 (y + n))) from
              ⟨by have h := (HI.out.1.stored t (.int .i64 (y + n))).1; rw [← HS.out, List.map_set]; exact h, HI.out.2.setCell (p := ⟨g, t, none⟩) HG.out _⟩)
            clear HX hpt hy e hin HI HS
            have hlt3 : (t : Int) < (T : Int) := by omega
            have htN : t < N := by omega
            rcases hm with ⟨rfl, rfl⟩ | ⟨rfl, rfl | rfl⟩
            · go_wp2
              go_roundw
              case rel => exact ⟨t + 1, by omega, by omega, by go_num, HI2⟩
              case measure => simp [intOf]; omega
            · go_wp2
              go_roundw
              case rel => exact ⟨t + 1, by omega, by omega, by go_num, HI2⟩
              case measure => simp [intOf]; omega
            · go_wp2
              go_roundw
              case rel => exact ⟨t + 1, by omega, by omega, by go_num, HI2⟩
              case measure => simp [intOf]; omega
        · have hte : t = T := by omega
          subst hte
          have HK := hd (show wr.ownsRow B 3 1 (.slice (some ⟨g, 0, none⟩) N N) N ((mkL N (stM f n fun u => hasL (l.take (k + 1)) u)).map (Value.int .i64)) ∧ Below B w wr from by
            rw [mkL_congr N (stM f n fun u => hasL (l.take (k + 1)) u) (stM f n (pIn l k t)) (fun u _ => by unfold stM; rw [pIn_last l k t hlt HT.out u])]; exact HI.out)
          clear HI HJ
          go_wp2
          go_roundw
          case rel => exact ⟨k + 1, by omega, by go_num, HK⟩
          case measure => simp [intOf]; omega
    · have hke : k = l.length := by omega
      have HK := hd (show wr.ownsRow B 3 1 (.slice (some ⟨g, 0, none⟩) N N) N ((mkL N (stM f n fun u => hasL l u)).map (Value.int .i64)) ∧ Below B w wr from by
        have h := HI.out
        rw [hke, List.take_length] at h
        exact h)
      clear HI hke
      go_wp2
      go_returns
      exact ⟨rfl, HK.out.1, HK.out.2⟩
end Go.Proofs.YtmcgkpfbehlpcaaGreatDoor
