/-
  Contract of the reference's Summary, at valid records.
-/
import Derived.Test.YtcekfcefdmejeaaGreatDoorProg
import Derived.Test.YtcekfcefdmejeaaGreatDoorT4
import Derived.Deep.RegionHeld3
namespace Go.Proofs.YtcekfcefdmejeaaGreatDoor
open Go.RowKit
attribute [local go_sem] Oper.semAt_some

/-- The blocks of Summary: the record, the result, the statistics. -/
structure I4 (w : World) (nm : ByteArray) (st : Int) (lv gv : Value) (cs : Array Value) (W : World) : Prop where
  rcd : W.heap[w.heap.size]? = some (.cells #[.string nm, .int .i64 st, lv, gv] 25 (0, 0))
  res : W.heap[w.heap.size + 1]? = some (.cells #[.int .i64 0, .int .i64 0, .float .f32 0, .float .f32 0] 71 (0, 0))
  out : W.heap[w.heap.size + 1 + 1]? = some (.cells cs 71 (0, 0))
  bel : Below w.heap.size w W
section
variable {w : World} {nm : ByteArray} {st : Int} {lv gv : Value} {cs : Array Value} {W W' : World}
theorem I4.below (h : I4 w nm st lv gv cs W) (hb : Below W.heap.size W W') : I4 w nm st lv gv cs W' :=
  ⟨(hb.block _ (blk_lt h.rcd)).trans h.rcd, (hb.block _ (blk_lt h.res)).trans h.res, (hb.block _ (blk_lt h.out)).trans h.out, h.bel.trans (hb.mono h.bel.size)⟩
theorem I4.set (h : I4 w nm st lv gv cs W) (i : Nat) (v : Value) : I4 w nm st lv gv (cs.setIfInBounds i v) (W.setCell ⟨w.heap.size + 1 + 1, i, none⟩ v) :=
  ⟨(Below.heap_setCell W ⟨w.heap.size + 1 + 1, i, none⟩ v _ (by show w.heap.size ≠ w.heap.size + 1 + 1; omega)).trans h.rcd, (Below.heap_setCell W ⟨w.heap.size + 1 + 1, i, none⟩ v _ (by show w.heap.size + 1 ≠ w.heap.size + 1 + 1; omega)).trans h.res, blk_set h.out i v, h.bel.setCell (p := ⟨w.heap.size + 1 + 1, i, none⟩) (by show w.heap.size ≤ w.heap.size + 1 + 1; omega) v⟩
theorem I4.drew (h : I4 w nm st lv gv cs W) : I4 w nm st lv gv cs W.drew := ⟨h.rcd, h.res, h.out, h.bel.drew⟩
end

/-- One level more in the reference's statistics. -/
def rst (s : SS) (b : Nat) : SS := ⟨s.cnt + 1, s.sum + s16 b, if s.cnt = 0 ∨ num b < num s.lo then b else s.lo, if s.cnt = 0 ∨ num s.hi < num b then b else s.hi⟩
def rfK (bs : List Nat) (gs : List (Int × Int)) : Nat → SS
  | 0 => ⟨0, 0, 0, 0⟩
  | k + 1 => if hasL gs (k : Nat) = true then rfK bs gs k else rst (rfK bs gs k) (bs.getD k 0)
theorem rfK_ok (bs : List Nat) (gs : List (Int × Int)) (hlev : ∀ i, i < bs.length → chkLev (bs.getD i 0) = 0) : ∀ k, k ≤ bs.length → 0 ≤ (rfK bs gs k).cnt ∧ (rfK bs gs k).cnt ≤ k ∧ -(1024 * (k : Int)) ≤ (rfK bs gs k).sum ∧ (rfK bs gs k).sum ≤ 1024 * (k : Int) ∧ (0 < (rfK bs gs k).cnt → finB (rfK bs gs k).lo = true ∧ finB (rfK bs gs k).hi = true)
  | 0, _ => ⟨by simp [rfK], by simp [rfK], by simp [rfK], by simp [rfK], fun h => by simp [rfK] at h⟩
  | k + 1, hk => by
    obtain ⟨h1, h2, h3, h4, h5⟩ := rfK_ok bs gs hlev k (by omega)
    have hl := hlev k (by omega)
    have hf := fin_lev hl
    obtain ⟨-, g1, g2⟩ := sixt_of (show levOK (bs.getD k 0) = true by rw [levOK_iff]; simpa using hl)
    rw [rfK]
    split
    · exact ⟨h1, by omega, by omega, by omega, h5⟩
    · refine ⟨by simp only [rst]; omega, by simp only [rst]; omega, by simp only [rst]; omega, by simp only [rst]; omega, fun _ => ?_⟩
      by_cases h0 : (rfK bs gs k).cnt = 0
      · simp only [rst, h0, true_or, if_true]; exact ⟨hf, hf⟩
      · obtain ⟨f1, f2⟩ := h5 (by omega)
        simp only [rst, h0, false_or]
        constructor
        · split <;> assumption
        · split <;> assumption

theorem fgt_o {a b : Nat} (ha : finB a = true) (hb : finB b = true) : FloatKind.f32.format.order a b = some (compare (num a) (num b)) := ord_num ha hb

set_option maxRecDepth 1000000 in
set_option maxHeartbeats 8000000 in
theorem refSummary_any (nm : ByteArray) (st : Int) (lv gv : Value) (bs : List Nat) (gs : List (Int × Int)) (w : World) (hl : Rd w w.heap.size lv bs.length (flc bs)) (hg : Rd w w.heap.size gv gs.length (spc gs))
    (hlev : ∀ i, i < bs.length → chkLev (bs.getD i 0) = 0) (hn : bs.length ≤ 100000) :
    Calls Tryz.prog 34 #[.agg #[.string nm, .int .i64 st, lv, gv]] w fun e w' => e = .returned (sumR (rfK bs gs bs.length)) ∧ Below w.heap.size w w' := by
  have HL := hd hl
  have HG := hd hg
  have HF := hd hlev
  have HK := hd (rfK_ok bs gs hlev)
  obtain ⟨A, c, rfl, hc1, hc2, -⟩ := hl
  obtain ⟨A2, c2, rfl, -⟩ := hg
  unfold maxLen at hc2
  obtain ⟨W3, hW3⟩ : ∃ W3, W3 = ((w.alloc (.cells #[.string nm, .int .i64 st, .slice A bs.length c, .slice A2 gs.length c2] 25)).alloc (.cells #[.int .i64 0, .int .i64 0, .float .f32 0, .float .f32 0] 71)).alloc (.cells #[.int .i64 0, .int .i64 0, .float .f32 0, .float .f32 0] 71) := ⟨_, rfl⟩
  have HI0 := hd (show I4 w nm st (.slice A bs.length c) (.slice A2 gs.length c2) (stc (rfK bs gs 0)) W3 from by
    have h1 := blk_new w #[.string nm, .int .i64 st, .slice A bs.length c, .slice A2 gs.length c2] 25
    have h2 := blk_new (w.alloc (.cells #[.string nm, .int .i64 st, .slice A bs.length c, .slice A2 gs.length c2] 25)) #[.int .i64 0, .int .i64 0, .float .f32 0, .float .f32 0] 71
    have h3 := blk_new ((w.alloc (.cells #[.string nm, .int .i64 st, .slice A bs.length c, .slice A2 gs.length c2] 25)).alloc (.cells #[.int .i64 0, .int .i64 0, .float .f32 0, .float .f32 0] 71)) #[.int .i64 0, .int .i64 0, .float .f32 0, .float .f32 0] 71
    simp only [World.size_alloc] at h2 h3
    rw [hW3]
    refine ⟨?_, ?_, h3, (((Below.refl _ w).alloc (Nat.le_refl _) _).alloc (by simp) _).alloc (by simp; omega) _⟩
    · rw [Below.heap_alloc _ _ _ (by simp; omega), Below.heap_alloc _ _ _ (by simp)]; exact h1
    · rw [Below.heap_alloc _ _ _ (by simp)]; exact h2)
  clear hlev
  go_enter Tryz.func34, Tryz.ntmps34
  go_wp2_with fail
  rw [← hW3]
  clear hW3
  go_loopw [5] (fun i wr => ∃ k : Nat, k ≤ bs.length ∧ i = .int .i64 k ∧ Hid (I4 w nm st (.slice A bs.length c) (.slice A2 gs.length c2) (stc (rfK bs gs k)) wr)) (fun i _ => bs.length - (intOf i).toNat)
  case atStart => exact ⟨0, Nat.zero_le _, rfl, HI0⟩
  case round =>
    obtain ⟨k, hk, rfl, HI⟩ := hrel
    clear HI0
    have q0 := blk_cell HI.out.rcd 0
    have q1 := blk_cell HI.out.rcd 1
    have q2 := blk_cell HI.out.rcd 2
    have q3 := blk_cell HI.out.rcd 3
    simp at q0 q1 q2 q3
    by_cases hlt : k < bs.length
    · have hki : (k : Int) < (bs.length : Int) := by omega
      go_wp2_with fail
      refine (refRecorded_any nm st A A2 bs.length c c2 gs k _ ((HG.out.below HI.out.bel (Nat.le_refl _)).mono HI.out.bel.size) hlt).mono ?_
      rintro e w1 ⟨rfl, hb⟩
      have HI1 := hd (HI.out.below hb)
      clear HI hb q0 q1 q2 q3
      cases hh : hasL gs (k : Int)
      · obtain ⟨A', c', e1, -, -, hcell⟩ := HL.out
        cases e1
        obtain ⟨b, off, rfl, hbb, hcell⟩ := hcell (by omega)
        have hx : w1.cell? ⟨b, off + k, none⟩ = some (.float .f32 (bs.getD k 0)) := (HI1.out.bel.cell (p := ⟨b, _, none⟩) hbb).trans ((hcell k (by simpa [flc] using hlt)).trans (flc_at bs k hlt))
        have HS := hd (show rfK bs gs (k + 1) = rst (rfK bs gs k) (bs.getD k 0) from by rw [rfK, if_neg (by rw [hh]; decide)])
        obtain ⟨b1, b2, b3, b4, b5⟩ := HK.out k hk
        have hlx := HF.out k hlt
        obtain ⟨-, t1, t2⟩ := sixt_of (show levOK (bs.getD k 0) = true by rw [levOK_iff]; simpa using hlx)
        have q2 := blk_cell HI1.out.rcd 2
        simp at q2
        have HHH := hd hh
        clear hcell hh
        generalize bs.getD k 0 = x at hx HS hlx t1 t2
        obtain ⟨cn, sm, lo, hi, hss⟩ : ∃ cn sm lo hi, rfK bs gs k = ⟨cn, sm, lo, hi⟩ := ⟨_, _, _, _, rfl⟩
        rw [hss] at HS HI1 b1 b2 b3 b4 b5
        simp only at b1 b2 b3 b4 b5
        have p0 := blk_cell HI1.out.out 0
        have p1 := blk_cell HI1.out.out 1
        have p2 := blk_cell HI1.out.out 2
        have p3 := blk_cell HI1.out.out 3
        simp [stc] at p0 p1 p2 p3
        have f0 := blk_frozen HI1.out.out 0
        have f1 := blk_frozen HI1.out.out 1
        have f2 := blk_frozen HI1.out.out 2
        have f3 := blk_frozen HI1.out.out 3
        have HSX := hd (fun W => refSixt_any x W hlx)
        obtain ⟨n16, hn16⟩ : ∃ n, n = s16 x := ⟨_, rfl⟩
        rw [← hn16] at t1 t2 HSX
        have HN16 := hd hn16
        have HFX := hd (fin_lev hlx)
        have HBLK := hd hss
        clear hss hlx hn16
        by_cases hc0 : cn = 0
        · subst hc0
          have HS2 := hd (show rfK bs gs (k + 1) = ⟨1, sm + n16, x, x⟩ from by rw [HS.out, HN16.out]; rfl)
          clear b5 b1 b2 HS HBLK
          go_wp2_with fail
          go_region_with (first | (go_at_call 69; refine (HSX.out _).mono ?_; rintro e w' ⟨rfl, rfl⟩))
          all_goals
            go_wp2
            go_roundw
            case rel => exact ⟨k + 1, by omega, by go_num, hd (by rw [HS2.out]; first | exact ((((HI1.out.set 2 (.float .f32 x)).set 3 (.float .f32 x)).set 0 (.int .i64 1)).drew.set 1 (.int .i64 (sm + n16))) | exact ((((HI1.out.set 2 (.float .f32 x)).set 3 (.float .f32 x)).set 0 (.int .i64 1)).set 1 (.int .i64 (sm + n16))))⟩
            case measure => simp [intOf]; omega
        · obtain ⟨fl, fh⟩ := b5 (by omega)
          have hcb : (cn == 0) = false := by simpa using hc0
          have o1 := fgt_o HFX.out fl
          have o2 := fgt_o HFX.out fh
          have g1 : (FloatKind.f32.format.order x lo == some .lt) = decide (num x < num lo) := by rw [o1, cmp_lt]
          have g2 : (FloatKind.f32.format.order x hi == some .gt) = decide (num hi < num x) := by rw [o2, cmp_gt]
          clear o1 o2 fl fh b5
          by_cases d1 : num x < num lo
          · rw [decide_eq_true d1] at g1
            by_cases d2 : num hi < num x
            · rw [decide_eq_true d2] at g2
              have HS2 := hd (show rfK bs gs (k + 1) = ⟨cn + 1, sm + n16, x, x⟩ from by rw [HS.out, HN16.out]; simp [rst, hc0, d1, d2])
              clear d1 d2 hc0 HS HBLK
              go_wp2_with fail
              go_region_with (first | (go_at_call 69; refine (HSX.out _).mono ?_; rintro e w' ⟨rfl, rfl⟩))
              all_goals
                go_wp2
                go_roundw
                case rel => exact ⟨k + 1, by omega, by go_num, hd (by rw [HS2.out]; first | exact ((((HI1.out.set 2 (.float .f32 x)).set 3 (.float .f32 x)).set 0 (.int .i64 (cn + 1))).drew.set 1 (.int .i64 (sm + n16))) | exact ((((HI1.out.set 2 (.float .f32 x)).set 3 (.float .f32 x)).set 0 (.int .i64 (cn + 1))).set 1 (.int .i64 (sm + n16))))⟩
                case measure => simp [intOf]; omega
            · rw [decide_eq_false d2] at g2
              have HS2 := hd (show rfK bs gs (k + 1) = ⟨cn + 1, sm + n16, x, hi⟩ from by rw [HS.out, HN16.out]; simp [rst, hc0, d1, d2])
              clear d1 d2 hc0 HS HBLK
              go_wp2_with fail
              go_region_with (first | (go_at_call 69; refine (HSX.out _).mono ?_; rintro e w' ⟨rfl, rfl⟩))
              all_goals
                go_wp2
                go_roundw
                case rel => exact ⟨k + 1, by omega, by go_num, hd (by rw [HS2.out]; first | exact (((HI1.out.set 2 (.float .f32 x)).set 0 (.int .i64 (cn + 1))).drew.set 1 (.int .i64 (sm + n16))) | exact (((HI1.out.set 2 (.float .f32 x)).set 0 (.int .i64 (cn + 1))).set 1 (.int .i64 (sm + n16))))⟩
                case measure => simp [intOf]; omega
          · rw [decide_eq_false d1] at g1
            by_cases d2 : num hi < num x
            · rw [decide_eq_true d2] at g2
              have HS2 := hd (show rfK bs gs (k + 1) = ⟨cn + 1, sm + n16, lo, x⟩ from by rw [HS.out, HN16.out]; simp [rst, hc0, d1, d2])
              clear d1 d2 hc0 HS HBLK
              go_wp2_with fail
              go_region_with (first | (go_at_call 69; refine (HSX.out _).mono ?_; rintro e w' ⟨rfl, rfl⟩))
              all_goals
                go_wp2
                go_roundw
                case rel => exact ⟨k + 1, by omega, by go_num, hd (by rw [HS2.out]; first | exact (((HI1.out.set 3 (.float .f32 x)).set 0 (.int .i64 (cn + 1))).drew.set 1 (.int .i64 (sm + n16))) | exact (((HI1.out.set 3 (.float .f32 x)).set 0 (.int .i64 (cn + 1))).set 1 (.int .i64 (sm + n16))))⟩
                case measure => simp [intOf]; omega
            · rw [decide_eq_false d2] at g2
              have HS2 := hd (show rfK bs gs (k + 1) = ⟨cn + 1, sm + n16, lo, hi⟩ from by rw [HS.out, HN16.out]; simp [rst, hc0, d1, d2])
              clear d1 d2 hc0 HS HBLK
              go_wp2_with fail
              go_region_with (first | (go_at_call 69; refine (HSX.out _).mono ?_; rintro e w' ⟨rfl, rfl⟩))
              all_goals
                go_wp2
                go_roundw
                case rel => exact ⟨k + 1, by omega, by go_num, hd (by rw [HS2.out]; first | exact ((HI1.out.set 0 (.int .i64 (cn + 1))).drew.set 1 (.int .i64 (sm + n16))) | exact ((HI1.out.set 0 (.int .i64 (cn + 1))).set 1 (.int .i64 (sm + n16))))⟩
                case measure => simp [intOf]; omega
      · have HS := hd (show rfK bs gs (k + 1) = rfK bs gs k from by rw [rfK, if_pos hh])
        have HHH := hd hh
        clear hh
        go_wp2_with fail
        go_roundw
        case rel => exact ⟨k + 1, by omega, by go_num, by rw [HS.out]; exact HI1⟩
        case measure => simp [intOf]; omega
    · have hke : k = bs.length := by omega
      subst hke
      obtain ⟨b1, -, -, -, -⟩ := HK.out bs.length hk
      have HSS := hd (show rfK bs gs bs.length = rfK bs gs bs.length from rfl)
      obtain ⟨cn, sm, lo, hi, hss⟩ : ∃ cn sm lo hi, rfK bs gs bs.length = ⟨cn, sm, lo, hi⟩ := ⟨_, _, _, _, rfl⟩
      rw [hss] at HI b1
      have HSR := hd (show sumR (rfK bs gs bs.length) = sumR ⟨cn, sm, lo, hi⟩ from by rw [hss])
      have p0 := blk_cell HI.out.out 0
      have p1 := blk_cell HI.out.out 1
      have p2 := blk_cell HI.out.out 2
      have p3 := blk_cell HI.out.out 3
      have r0 := blk_cell HI.out.res 0
      have r1 := blk_cell HI.out.res 1
      have r2 := blk_cell HI.out.res 2
      have r3 := blk_cell HI.out.res 3
      simp [stc] at p0 p1 p2 p3 r0 r1 r2 r3
      have f0 := blk_frozen HI.out.res 0
      have f1 := blk_frozen HI.out.res 1
      have f2 := blk_frozen HI.out.res 2
      have f3 := blk_frozen HI.out.res 3
      clear hss HSS
      by_cases hc0 : cn = 0
      · subst hc0
        have HSR2 := hd (show sumR (rfK bs gs bs.length) = .tuple #[.agg #[.int .i64 0, .int .i64 0, .float .f32 0, .float .f32 0], .int .i64 12] from by rw [HSR.out]; rfl)
        go_wp2
        have hq := set4_blk HI.out.res (.int .i64 0) (.int .i64 0) (.float .f32 0) (.float .f32 0)
        have z0 := blk_cell hq 0
        have z1 := blk_cell hq 1
        have z2 := blk_cell hq 2
        have z3 := blk_cell hq 3
        simp at z0 z1 z2 z3
        have HB9 := hd (set4_below HI.out.bel (R := w.heap.size + 1) (by omega) (.int .i64 0) (.int .i64 0) (.float .f32 0) (.float .f32 0))
        change bodyPost _ _ _ _ _ (set4 wr (w.heap.size + 1) (.int .i64 0) (.int .i64 0) (.float .f32 0) (.float .f32 0))
        generalize set4 wr (w.heap.size + 1) (.int .i64 0) (.int .i64 0) (.float .f32 0) (.float .f32 0) = W6 at *
        exact bodyPost_ret (v := .tuple #[.agg #[.int .i64 0, .int .i64 0, .float .f32 0, .float .f32 0], .int .i64 12]) (by simp [results, Tryz.results34, go_sem, z0, z1, z2, z3]) rfl ⟨by rw [HSR2.out], HB9.out⟩
      · have hcb : (cn == 0) = false := by simpa using hc0
        have HSR2 := hd (show sumR (rfK bs gs bs.length) = .tuple #[.agg #[.int .i64 cn, .int .i64 sm, .float .f32 lo, .float .f32 hi], .int .i64 0] from by rw [HSR.out]; simp [sumR, stc, hc0])
        clear hc0
        go_wp2
        have hq := set4_blk HI.out.res (.int .i64 cn) (.int .i64 sm) (.float .f32 lo) (.float .f32 hi)
        have z0 := blk_cell hq 0
        have z1 := blk_cell hq 1
        have z2 := blk_cell hq 2
        have z3 := blk_cell hq 3
        simp at z0 z1 z2 z3
        have HB9 := hd (set4_below HI.out.bel (R := w.heap.size + 1) (by omega) (.int .i64 cn) (.int .i64 sm) (.float .f32 lo) (.float .f32 hi))
        change bodyPost _ _ _ _ _ (set4 wr (w.heap.size + 1) (.int .i64 cn) (.int .i64 sm) (.float .f32 lo) (.float .f32 hi))
        generalize set4 wr (w.heap.size + 1) (.int .i64 cn) (.int .i64 sm) (.float .f32 lo) (.float .f32 hi) = W6 at *
        exact bodyPost_ret (v := .tuple #[.agg #[.int .i64 cn, .int .i64 sm, .float .f32 lo, .float .f32 hi], .int .i64 0]) (by simp [results, Tryz.results34, go_sem, z0, z1, z2, z3]) rfl ⟨by rw [HSR2.out], HB9.out⟩
end Go.Proofs.YtcekfcefdmejeaaGreatDoor
