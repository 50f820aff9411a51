/-
  Contracts of the reference's water and Waters, at valid records.
-/
import Derived.Test.YtcekfcefdmejeaaGreatDoorProg
import Derived.Test.YtcekfcefdmejeaaGreatDoorT2
import Derived.BigQuiet
import Derived.Test.YtcekfcefdmejeaaGreatDoorMN
namespace Go.Proofs.YtcekfcefdmejeaaGreatDoor
open Go.RowKit
attribute [local go_sem] Oper.semAt_some

theorem below_dq {B : Nat} {a w : World} (h : Below B a w) (k : Nat) : Below B a (w.drewN k) := ⟨h.os, h.tape, h.output, h.size, h.block⟩

/-- A level times 1 or -1. -/
def sv (neg : Bool) (b : Nat) : Int := if neg = true then -num b else num b
/-- That a level doesn't keep another one from being a high water. -/
def okR (bs : List Nat) (gs : List (Int × Int)) (wd : Int) (neg : Bool) (i k : Nat) : Bool :=
  hasL gs (k : Nat) || !((decide (k < i) && decide ((i : Int) - wd ≤ k) && decide (sv neg (bs.getD i 0) ≤ sv neg (bs.getD k 0))) || (decide (i < k) && decide ((k : Int) ≤ i + wd) && decide (sv neg (bs.getD i 0) < sv neg (bs.getD k 0))))
def watR (bs : List Nat) (gs : List (Int × Int)) (wd : Int) (neg : Bool) (i : Nat) : Bool := !hasL gs (i : Nat) && (List.range bs.length).all fun k => okR bs gs wd neg i k
theorem watR_gap {bs : List Nat} {gs : List (Int × Int)} {wd : Int} {neg : Bool} {i : Nat} (h : hasL gs (i : Nat) = true) : watR bs gs wd neg i = false := by unfold watR; rw [h]; rfl
theorem watR_no {bs : List Nat} {gs : List (Int × Int)} {wd : Int} {neg : Bool} {i k : Nat} (hk : k < bs.length) (h : okR bs gs wd neg i k = false) : watR bs gs wd neg i = false := by
  unfold watR
  rw [Bool.and_eq_false_iff]
  exact .inr (List.all_eq_false.2 ⟨k, by simpa using hk, by rw [h]; simp⟩)
theorem watR_yes {bs : List Nat} {gs : List (Int × Int)} {wd : Int} {neg : Bool} {i : Nat} (h : hasL gs (i : Nat) = false) (ha : ∀ k, k < bs.length → okR bs gs wd neg i k = true) : watR bs gs wd neg i = true := by
  unfold watR
  rw [h, Bool.and_eq_true]
  exact ⟨rfl, List.all_eq_true.2 fun k hk => ha k (by simpa using hk)⟩
set_option maxRecDepth 1000000 in
set_option maxHeartbeats 4000000 in
theorem water_any (nm : ByteArray) (st : Int) (lv gv : Value) (bs : List Nat) (gs : List (Int × Int)) (wd : Int) (neg : Bool) (i : Nat) (w : World) (hl : Rd w w.heap.size lv bs.length (flc bs)) (hg : Rd w w.heap.size gv gs.length (spc gs))
    (hlev : ∀ i, i < bs.length → finB (bs.getD i 0) = true) (hn : bs.length ≤ 100000) (hw : 1 ≤ wd ∧ wd ≤ 4096) (hi : i < bs.length) :
    Calls Tryz.prog 81 #[.agg #[.string nm, .int .i64 st, lv, gv], .int .i64 wd, .int .i64 i, .float .f32 (sgF neg)] w fun e w' => e = .returned (.bool (watR bs gs wd neg i)) ∧ Below w.heap.size w w' := by
  have HL := hd hl
  have HG := hd hg
  have HF := hd hlev
  obtain ⟨A, c, rfl, hc1, hc2, hcell⟩ := hl
  obtain ⟨A2, c2, rfl, -⟩ := hg
  unfold maxLen at hc2
  obtain ⟨b, off, rfl, hbb, hcell⟩ := hcell (by omega)
  have HCL := hd hcell
  have HQ0 := hd (blk_new w #[.string nm, .int .i64 st, .slice (some ⟨b, off, none⟩) bs.length c, .slice A2 gs.length c2] 25)
  have hb0 := (Below.refl w.heap.size w).alloc (Nat.le_refl _) (Obj.cells #[.string nm, .int .i64 st, .slice (some ⟨b, off, none⟩) bs.length c, .slice A2 gs.length c2] 25)
  have HB0 := hd hb0
  have RG := hd ((HG.out.below hb0 (Nat.le_refl _)).mono hb0.size)
  obtain ⟨sg, hsg⟩ : ∃ s, s = sgF neg := ⟨_, rfl⟩
  have HT := hd (fun x (h : finB x = true) => show ∃ z, floatBits .mul .f32 sg x = some z ∧ finB z = true ∧ num z = sv neg x from by rw [hsg]; exact times_one neg h)
  rw [← hsg]
  clear hlev hcell hb0 hsg hc1
  obtain ⟨hw1, hw2⟩ := hw
  have hi' : (i : Int) < (bs.length : Int) := by omega
  go_enter Tryz.func81, Tryz.ntmps81
  go_wp2_with fail
  refine (refRecorded_any nm st _ A2 bs.length c c2 gs i _ RG.out hi).mono ?_
  rintro e w1 ⟨rfl, hb⟩
  have HI1 := hd (And.intro ((hb.block _ (blk_lt HQ0.out)).trans HQ0.out) (HB0.out.trans (hb.mono HB0.out.size)))
  clear hb HQ0 HB0 RG
  cases hh : hasL gs (i : Int)
  · have HHH := hd hh
    clear hh
    go_wp2_with fail
    go_loopw [9] (fun k wr => ∃ k' : Nat, k' ≤ bs.length ∧ k = .int .i64 k' ∧ Hid (wr.heap[w.heap.size]? = some (.cells #[.string nm, .int .i64 st, .slice (some ⟨b, off, none⟩) bs.length c, .slice A2 gs.length c2] 25 (0, 0)) ∧ Below w.heap.size w wr) ∧ Hid (∀ j, j < k' → okR bs gs wd neg i j = true)) (fun k _ => bs.length - (intOf k).toNat)
    case atStart => exact ⟨0, Nat.zero_le _, rfl, HI1, hd (fun j hj => absurd hj (by omega))⟩
    case round =>
      obtain ⟨k, hk, rfl, HI, HZ⟩ := hrel
      clear HI1
      have q0 := blk_cell HI.out.1 0
      have q1 := blk_cell HI.out.1 1
      have q2 := blk_cell HI.out.1 2
      have q3 := blk_cell HI.out.1 3
      simp at q0 q1 q2 q3
      by_cases hlt : k < bs.length
      · have hki : (k : Int) < (bs.length : Int) := by omega
        have HNX := hd (show okR bs gs wd neg i k = true → Hid (∀ j, j < k + 1 → okR bs gs wd neg i j = true) from fun h => hd (fun j hj => if e : j = k then by rw [e]; exact h else HZ.out j (by omega)))
        have HNO := hd (show okR bs gs wd neg i k = false → watR bs gs wd neg i = false from fun h => watR_no hlt h)
        have HLT := hd hlt
        go_wp2_with fail
        refine (refRecorded_any nm st _ A2 bs.length c c2 gs k _ ((HG.out.below HI.out.2 (Nat.le_refl _)).mono HI.out.2.size) hlt).mono ?_
        rintro e w2 ⟨rfl, hb⟩
        have HI2 := hd (And.intro ((hb.block _ (blk_lt HI.out.1)).trans HI.out.1) (HI.out.2.trans (hb.mono HI.out.2.size)))
        clear hb HI q0 q1 q2 q3 HZ hlt
        cases hh2 : hasL gs (k : Int)
        · have q2 := blk_cell HI2.out.1 2
          simp at q2
          obtain ⟨x, hx⟩ : ∃ x, x = bs.getD i 0 := ⟨_, rfl⟩
          obtain ⟨y, hy⟩ : ∃ y, y = bs.getD k 0 := ⟨_, rfl⟩
          have cx : w2.cell? ⟨b, off + i, none⟩ = some (.float .f32 x) := (HI2.out.2.cell (p := ⟨b, _, none⟩) hbb).trans ((HCL.out i (by simpa [flc] using hi)).trans (by rw [hx]; exact flc_at bs i hi))
          have cy : w2.cell? ⟨b, off + k, none⟩ = some (.float .f32 y) := (HI2.out.2.cell (p := ⟨b, _, none⟩) hbb).trans ((HCL.out k (by simpa [flc] using HLT.out)).trans (by rw [hy]; exact flc_at bs k HLT.out))
          obtain ⟨za, ma, fa, na⟩ := HT.out x (by rw [hx]; exact HF.out i hi)
          obtain ⟨zb, mb, fb, nb⟩ := HT.out y (by rw [hy]; exact HF.out k HLT.out)
          have hm1 := fun w => run_float_arith (P := Tryz.prog) w .mul 62 .f32 sg x za ma
          have hm2 := fun w => run_float_arith (P := Tryz.prog) w .mul 62 .f32 sg y zb mb
          have ho := ord_num fb fa
          rw [na, nb] at ho
          have HOK := hd (show okR bs gs wd neg i k = !((decide (k < i) && decide ((i : Int) - wd ≤ k) && decide (sv neg x ≤ sv neg y)) || (decide (i < k) && decide ((k : Int) ≤ i + wd) && decide (sv neg x < sv neg y))) from by unfold okR; rw [hh2, ← hx, ← hy]; rfl)
          generalize sv neg x = X at ho HOK
          generalize sv neg y = Y at ho HOK
          have HH2 := hd hh2
          clear hx hy ma mb fa fb na nb hh2
          cases hcmp : compare Y X
          · have hXY := Int.compare_eq_lt.1 hcmp
            rw [hcmp] at ho
            have e1 : decide (X ≤ Y) = false := by simp; omega
            have e2 : decide (X < Y) = false := by simp; omega
            rw [e1, e2] at HOK
            clear e1 e2 hXY hcmp
            by_cases d1 : k < i
            · have d1' : (k : Int) < (i : Int) := by omega
              have d1n : ¬ i < k := by omega
              have d1m : ¬ (i : Int) < (k : Int) := by omega
              by_cases d2 : (i : Int) - wd ≤ (k : Int)
              · have HN := HNX.out (by rw [HOK.out]; simp [d1, d2, d1n])
                clear HOK HNX HNO
                go_wp2_with fail
                go_quiet (fail)
                go_wp2_with fail
                go_roundw
                case rel => exact ⟨k + 1, by omega, by go_num, hd ⟨HI2.out.1, below_dq HI2.out.2 _⟩, HN⟩
                case measure => simp [intOf]; omega
              · have HN := HNX.out (by rw [HOK.out]; simp [d2, d1n])
                clear HOK HNX HNO
                go_wp2_with fail
                go_quiet (fail)
                go_wp2_with fail
                go_roundw
                case rel => exact ⟨k + 1, by omega, by go_num, hd ⟨HI2.out.1, below_dq HI2.out.2 _⟩, HN⟩
                case measure => simp [intOf]; omega
            · have d1' : ¬ (k : Int) < (i : Int) := by omega
              by_cases d3 : i < k
              · have d3' : (i : Int) < (k : Int) := by omega
                by_cases d4 : (k : Int) ≤ i + wd
                · have HN := HNX.out (by rw [HOK.out]; simp [d1])
                  clear HOK HNX HNO
                  go_wp2_with fail
                  go_quiet (fail)
                  go_wp2_with fail
                  go_roundw
                  case rel => exact ⟨k + 1, by omega, by go_num, hd ⟨HI2.out.1, below_dq HI2.out.2 _⟩, HN⟩
                  case measure => simp [intOf]; omega
                · have HN := HNX.out (by rw [HOK.out]; simp [d1, d4])
                  clear HOK HNX HNO
                  go_wp2_with fail
                  go_quiet (fail)
                  go_wp2_with fail
                  go_roundw
                  case rel => exact ⟨k + 1, by omega, by go_num, hd ⟨HI2.out.1, below_dq HI2.out.2 _⟩, HN⟩
                  case measure => simp [intOf]; omega
              · have HN := HNX.out (by rw [HOK.out]; simp [d1, d3])
                have d3' : ¬ (i : Int) < (k : Int) := by omega
                clear HOK HNX HNO
                go_wp2_with fail
                go_quiet (fail)
                go_wp2_with fail
                go_roundw
                case rel => exact ⟨k + 1, by omega, by go_num, hd ⟨HI2.out.1, below_dq HI2.out.2 _⟩, HN⟩
                case measure => simp [intOf]; omega
          · have hXY := Int.compare_eq_eq.1 hcmp
            rw [hcmp] at ho
            have e1 : decide (X ≤ Y) = true := by simp; omega
            have e2 : decide (X < Y) = false := by simp; omega
            rw [e1, e2] at HOK
            clear e1 e2 hXY hcmp
            by_cases d1 : k < i
            · have d1' : (k : Int) < (i : Int) := by omega
              have d1n : ¬ i < k := by omega
              have d1m : ¬ (i : Int) < (k : Int) := by omega
              by_cases d2 : (i : Int) - wd ≤ (k : Int)
              · have HN := hd (HNO.out (by rw [HOK.out]; simp [d1, d2]))
                clear HOK HNX HNO
                go_wp2_with fail
                go_quiet (fail)
                go_wp2_with fail
                go_returns
                exact ⟨by rw [HN.out]; rfl, below_dq HI2.out.2 _⟩
              · have HN := HNX.out (by rw [HOK.out]; simp [d2, d1n])
                clear HOK HNX HNO
                go_wp2_with fail
                go_quiet (fail)
                go_wp2_with fail
                go_roundw
                case rel => exact ⟨k + 1, by omega, by go_num, hd ⟨HI2.out.1, below_dq HI2.out.2 _⟩, HN⟩
                case measure => simp [intOf]; omega
            · have d1' : ¬ (k : Int) < (i : Int) := by omega
              by_cases d3 : i < k
              · have d3' : (i : Int) < (k : Int) := by omega
                by_cases d4 : (k : Int) ≤ i + wd
                · have HN := HNX.out (by rw [HOK.out]; simp [d1])
                  clear HOK HNX HNO
                  go_wp2_with fail
                  go_quiet (fail)
                  go_wp2_with fail
                  go_roundw
                  case rel => exact ⟨k + 1, by omega, by go_num, hd ⟨HI2.out.1, below_dq HI2.out.2 _⟩, HN⟩
                  case measure => simp [intOf]; omega
                · have HN := HNX.out (by rw [HOK.out]; simp [d1, d4])
                  clear HOK HNX HNO
                  go_wp2_with fail
                  go_quiet (fail)
                  go_wp2_with fail
                  go_roundw
                  case rel => exact ⟨k + 1, by omega, by go_num, hd ⟨HI2.out.1, below_dq HI2.out.2 _⟩, HN⟩
                  case measure => simp [intOf]; omega
              · have HN := HNX.out (by rw [HOK.out]; simp [d1, d3])
                have d3' : ¬ (i : Int) < (k : Int) := by omega
                clear HOK HNX HNO
                go_wp2_with fail
                go_quiet (fail)
                go_wp2_with fail
                go_roundw
                case rel => exact ⟨k + 1, by omega, by go_num, hd ⟨HI2.out.1, below_dq HI2.out.2 _⟩, HN⟩
                case measure => simp [intOf]; omega
          · have hXY := Int.compare_eq_gt.1 hcmp
            rw [hcmp] at ho
            have e1 : decide (X ≤ Y) = true := by simp; omega
            have e2 : decide (X < Y) = true := by simp; omega
            rw [e1, e2] at HOK
            clear e1 e2 hXY hcmp
            by_cases d1 : k < i
            · have d1' : (k : Int) < (i : Int) := by omega
              have d1n : ¬ i < k := by omega
              have d1m : ¬ (i : Int) < (k : Int) := by omega
              by_cases d2 : (i : Int) - wd ≤ (k : Int)
              · have HN := hd (HNO.out (by rw [HOK.out]; simp [d1, d2]))
                clear HOK HNX HNO
                go_wp2_with fail
                go_quiet (fail)
                go_wp2_with fail
                go_returns
                exact ⟨by rw [HN.out]; rfl, below_dq HI2.out.2 _⟩
              · have HN := HNX.out (by rw [HOK.out]; simp [d2, d1n])
                clear HOK HNX HNO
                go_wp2_with fail
                go_quiet (fail)
                go_wp2_with fail
                go_roundw
                case rel => exact ⟨k + 1, by omega, by go_num, hd ⟨HI2.out.1, below_dq HI2.out.2 _⟩, HN⟩
                case measure => simp [intOf]; omega
            · have d1' : ¬ (k : Int) < (i : Int) := by omega
              by_cases d3 : i < k
              · have d3' : (i : Int) < (k : Int) := by omega
                by_cases d4 : (k : Int) ≤ i + wd
                · have HN := hd (HNO.out (by rw [HOK.out]; simp [d3, d4]))
                  clear HOK HNX HNO
                  go_wp2_with fail
                  go_quiet (fail)
                  go_wp2_with fail
                  go_returns
                  exact ⟨by rw [HN.out]; rfl, below_dq HI2.out.2 _⟩
                · have HN := HNX.out (by rw [HOK.out]; simp [d1, d4])
                  clear HOK HNX HNO
                  go_wp2_with fail
                  go_quiet (fail)
                  go_wp2_with fail
                  go_roundw
                  case rel => exact ⟨k + 1, by omega, by go_num, hd ⟨HI2.out.1, below_dq HI2.out.2 _⟩, HN⟩
                  case measure => simp [intOf]; omega
              · have HN := HNX.out (by rw [HOK.out]; simp [d1, d3])
                have d3' : ¬ (i : Int) < (k : Int) := by omega
                clear HOK HNX HNO
                go_wp2_with fail
                go_quiet (fail)
                go_wp2_with fail
                go_roundw
                case rel => exact ⟨k + 1, by omega, by go_num, hd ⟨HI2.out.1, below_dq HI2.out.2 _⟩, HN⟩
                case measure => simp [intOf]; omega
        · have HN := HNX.out (by unfold okR; rw [hh2]; rfl)
          have HH2 := hd hh2
          clear hh2 HNX HNO
          go_wp2_with fail
          go_roundw
          case rel => exact ⟨k + 1, by omega, by go_num, HI2, HN⟩
          case measure => simp [intOf]; omega
      · have HR := hd (watR_yes (bs := bs) (wd := wd) (neg := neg) HHH.out (fun j hj => HZ.out j (by omega)))
        have HBB := hd HI.out.2
        clear HI
        go_wp2_with fail
        go_returns
        exact ⟨by rw [HR.out]; rfl, HBB.out⟩
  · have HR := hd (watR_gap (bs := bs) (wd := wd) (neg := neg) hh)
    have HBB := hd HI1.out.2
    clear hh HI1
    go_wp2_with fail
    go_returns
    exact ⟨by rw [HR.out]; rfl, HBB.out⟩
end Go.Proofs.YtcekfcefdmejeaaGreatDoor
