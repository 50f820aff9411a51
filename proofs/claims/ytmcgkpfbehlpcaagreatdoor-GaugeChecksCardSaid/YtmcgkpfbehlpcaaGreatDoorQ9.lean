/-
  GaugeChecks for every record, span and list of rules.
-/
import Derived.Test.YtmcgkpfbehlpcaaGreatDoorProg
import Derived.Test.YtmcgkpfbehlpcaaGreatDoorQ3
import Derived.Test.YtmcgkpfbehlpcaaGreatDoorQ4
import Derived.Test.YtmcgkpfbehlpcaaGreatDoorQ6
import Derived.Test.YtmcgkpfbehlpcaaGreatDoorQ8
import Derived.Test.YtmcgkpfbehlpcaaGreatDoorAw
import Derived.Deep.RegionHeld3
namespace Go.Proofs.YtmcgkpfbehlpcaaGreatDoor
open Go.RowKit
attribute [local go_sem] Oper.semAt_some

set_option maxRecDepth 1000000 in
set_option maxHeartbeats 4000000 in
theorem checks_long (HA : Hid Awake) (nm : ByteArray) (st f t : Int) (A A2 A3 : Option Addr) (n c m c2 c3 : Nat) (l : List Ru) (w : World) (hr : Rd w w.heap.size (.slice A3 l.length c3) l.length (ruc l)) (h : shortR nm.size n m = false ∨ shortRu l = false) :
    Calls Tryz.prog 3 #[.agg #[.string nm, .int .i64 st, .slice A n c, .slice A2 m c2], .agg #[.int .i64 f, .int .i64 t], .slice A3 l.length c3] w fun e w' => e = .returned (.bool true) ∧ Below w.heap.size w w' := by
  obtain ⟨W1, hW1⟩ : ∃ W1, W1 = (w.alloc (.cells #[.string nm, .int .i64 st, .slice A n c, .slice A2 m c2] 25)).alloc (.cells #[.int .i64 f, .int .i64 t] 27) := ⟨_, rfl⟩
  have hb1 : Below w.heap.size w W1 := by rw [hW1]; exact ((Below.refl _ w).alloc (Nat.le_refl _) _).alloc (by simp) _
  have hs1 : w.heap.size < W1.heap.size := by rw [hW1]; simp; omega
  have hq : W1.heap[w.heap.size]? = some (.cells #[.string nm, .int .i64 st, .slice A n c, .slice A2 m c2] 25 (0, 0)) := by rw [hW1, Below.heap_alloc _ _ _ (by simp)]; exact blk_new _ _ _
  have RR := hd ((hr.below hb1 (Nat.le_refl _)).mono hb1.size)
  have HB := hd hb1
  have HQ := hd hq
  clear hr hb1 hq
  cases h1 : shortR nm.size n m
  · have S1 := hd h1
    clear h h1
    go_enter Tryz.func3, Tryz.ntmps3
    go_wp2_with fail
    rw [← hW1]
    clear hW1
    refine (HA.out _).mono ?_
    rintro e w1 ⟨rfl, hb⟩
    replace HQ := (hb.block _ hs1).trans HQ.out
    replace HB := hd (HB.out.trans (hb.mono (HB.out.size)))
    have k0 := blk_cell HQ 0
    have k1 := blk_cell HQ 1
    have k2 := blk_cell HQ 2
    have k3 := blk_cell HQ 3
    simp at k0 k1 k2 k3
    clear hb HQ
    go_wp2_with fail
    refine (short_any nm st A A2 n c m c2 _).mono ?_
    rw [S1.out]
    rintro e w2 ⟨rfl, hb⟩
    replace HB := hd (HB.out.trans (hb.mono (HB.out.size)))
    clear hb k0 k1 k2 k3
    go_wp2_with fail
    refine (HA.out _).mono ?_
    rintro e w3 ⟨rfl, hb⟩
    replace HB := hd (HB.out.trans (hb.mono (HB.out.size)))
    clear hb
    go_wp2_with fail
    go_returns
    exact ⟨rfl, HB.out⟩
  · have h2 : shortRu l = false := by
      rcases h with h | h
      · rw [h1] at h; cases h
      · exact h
    have S1 := hd h1
    have S2 := hd h2
    clear h h1 h2
    go_enter Tryz.func3, Tryz.ntmps3
    go_wp2_with fail
    rw [← hW1]
    clear hW1
    refine (HA.out _).mono ?_
    rintro e w1 ⟨rfl, hb⟩
    replace HQ := (hb.block _ hs1).trans HQ.out
    replace HB := hd (HB.out.trans (hb.mono (HB.out.size)))
    replace RR := hd ((RR.out.below hb (Nat.le_refl _)).mono hb.size)
    have k0 := blk_cell HQ 0
    have k1 := blk_cell HQ 1
    have k2 := blk_cell HQ 2
    have k3 := blk_cell HQ 3
    simp at k0 k1 k2 k3
    clear hb HQ
    go_wp2_with fail
    refine (short_any nm st A A2 n c m c2 _).mono ?_
    rw [S1.out]
    rintro e w2 ⟨rfl, hb⟩
    replace HB := hd (HB.out.trans (hb.mono (HB.out.size)))
    replace RR := hd ((RR.out.below hb (Nat.le_refl _)).mono hb.size)
    clear hb k0 k1 k2 k3
    go_wp2_with fail
    refine (shortRules_any _ l _ RR.out).mono ?_
    rw [S2.out]
    rintro e w' ⟨rfl, rfl⟩
    go_wp2_with fail
    refine (HA.out _).mono ?_
    rintro e w3 ⟨rfl, hb⟩
    replace HB := hd (HB.out.trans (hb.mono (HB.out.size)))
    clear hb
    go_wp2_with fail
    go_returns
    exact ⟨rfl, HB.out⟩

theorem shortR_len {s n m : Nat} (h : shortR s n m = true) : n ≤ 4097 ∧ m ≤ 2049 := by
  unfold shortR at h
  simp only [Bool.and_eq_true, Bool.or_eq_true, decide_eq_true_eq] at h
  omega
theorem shortRu_len {l : List Ru} (h : shortRu l = true) : l.length ≤ 9 := by
  unfold shortRu at h
  simp only [Bool.and_eq_true, decide_eq_true_eq] at h
  exact h.2

set_option maxRecDepth 1000000 in
set_option maxHeartbeats 4000000 in
theorem checks_main (HA : Hid Awake) (nm : ByteArray) (st f t : Int) (lv gv rv : Value) (bs : List Nat) (gs : List (Int × Int)) (l : List Ru) (w : World) (hl : Rd w w.heap.size lv bs.length (flc bs)) (hg : Rd w w.heap.size gv gs.length (spc gs)) (hr : Rd w w.heap.size rv l.length (ruc l)) (fl : Full lv) (fg : Full gv) (hs : nm.size ≤ maxLen)
    (h1 : shortR nm.size bs.length gs.length = true) (h2 : shortRu l = true) :
    Calls Tryz.prog 3 #[.agg #[.string nm, .int .i64 st, lv, gv], .agg #[.int .i64 f, .int .i64 t], rv] w fun e w' => e = .returned (.bool true) ∧ Below w.heap.size w w' := by
  have HL := hd hl
  have HG := hd hg
  have HR := hd hr
  have FL := hd fl
  have FG := hd fg
  have S1 := hd h1
  have S2 := hd h2
  have HS := hd hs
  obtain ⟨A, c, rfl, hc1, hc2, -⟩ := hl
  obtain ⟨A2, c2, rfl, -⟩ := hg
  obtain ⟨A3, c3, rfl, -⟩ := hr
  unfold maxLen at hc2
  obtain ⟨W1, hW1⟩ : ∃ W1, W1 = (w.alloc (.cells #[.string nm, .int .i64 st, .slice A bs.length c, .slice A2 gs.length c2] 25)).alloc (.cells #[.int .i64 f, .int .i64 t] 27) := ⟨_, rfl⟩
  have hb1 : Below w.heap.size w W1 := by rw [hW1]; exact ((Below.refl _ w).alloc (Nat.le_refl _) _).alloc (by simp) _
  have hs1 : w.heap.size + 1 < W1.heap.size := by rw [hW1]; simp
  have hq : W1.heap[w.heap.size]? = some (.cells #[.string nm, .int .i64 st, .slice A bs.length c, .slice A2 gs.length c2] 25 (0, 0)) := by rw [hW1, Below.heap_alloc _ _ _ (by simp)]; exact blk_new _ _ _
  have hp : W1.heap[w.heap.size + 1]? = some (.cells #[.int .i64 f, .int .i64 t] 27 (0, 0)) := by
    have h1 := blk_new (w.alloc (.cells #[.string nm, .int .i64 st, .slice A bs.length c, .slice A2 gs.length c2] 25)) #[.int .i64 f, .int .i64 t] 27
    simp only [World.size_alloc] at h1
    rw [hW1]; exact h1
  have HB := hd hb1
  have HQ := hd hq
  have HP := hd hp
  clear fl fg h1 h2 hs hb1 hq hp
  go_enter Tryz.func3, Tryz.ntmps3
  go_wp2_with fail
  rw [← hW1]
  clear hW1
  refine (HA.out _).mono ?_
  rintro e w1 ⟨rfl, hb⟩
  have hs2 : w.heap.size + 1 < w1.heap.size := Nat.lt_of_lt_of_le hs1 hb.size
  replace HQ := hd ((hb.block _ (by omega)).trans HQ.out)
  replace HP := hd ((hb.block _ (by omega)).trans HP.out)
  replace HB := hd (HB.out.trans (hb.mono (HB.out.size)))
  have k0 := blk_cell HQ.out 0
  have k1 := blk_cell HQ.out 1
  have k2 := blk_cell HQ.out 2
  have k3 := blk_cell HQ.out 3
  simp at k0 k1 k2 k3
  clear hb hs1
  go_wp2_with fail
  refine (short_any nm st A A2 bs.length c gs.length c2 _).mono ?_
  rw [S1.out]
  rintro e w2 ⟨rfl, hb⟩
  have hs3 : w.heap.size + 1 < w2.heap.size := Nat.lt_of_lt_of_le hs2 hb.size
  replace HQ := hd ((hb.block _ (by omega)).trans HQ.out)
  replace HP := hd ((hb.block _ (by omega)).trans HP.out)
  replace HB := hd (HB.out.trans (hb.mono (HB.out.size)))
  clear hb hs2 k0 k1 k2 k3
  go_wp2_with fail
  refine (shortRules_any _ l _ ((HR.out.below HB.out (Nat.le_refl _)).mono HB.out.size)).mono ?_
  rw [S2.out]
  rintro e w' ⟨rfl, rfl⟩
  have k2 := blk_cell HQ.out 2
  simp at k2
  go_wp2_with fail
  obtain ⟨K, hK⟩ : ∃ K : Nat, min (bs.length : Int) 40 = K := ⟨min bs.length 40, by omega⟩
  have hKn : K ≤ bs.length := by omega
  have hKc : K ≤ 9223372036854775807 := by omega
  rw [hK]
  rw [show max (K : Int) 0 = (K : Int) by omega, show ((K : Int)).toNat = K by omega]
  clear k2 hK
  have HN := hd (show bs.length ≤ 100000 ∧ gs.length ≤ 100000 from by have := shortR_len S1.out; omega)
  have HN2 := hd (show l.length ≤ 100000 from by have := shortRu_len S2.out; omega)
  go_loopw [30] (fun i wr => ∃ k : Nat, k ≤ K ∧ i = .int .i64 k ∧ Below w2.heap.size w2 wr) (fun i _ => K - (intOf i).toNat)
  case atStart => exact ⟨0, Nat.zero_le _, rfl, Below.refl _ _⟩
  case round =>
    obtain ⟨k, hk, rfl, hb⟩ := hrel
    have HBW := hd (HB.out.trans (hb.mono HB.out.size))
    have HBN := hd hb
    clear hb
    by_cases hlt : k < K
    · obtain ⟨A', c', e1, -, -, hcell⟩ := HL.out
      cases e1
      obtain ⟨b, off, rfl, hbb, hcell⟩ := hcell (by omega)
      have hx : wr.cell? ⟨b, off + k, none⟩ = some (.float .f32 (bs.getD k 0)) := (HBW.out.cell (p := ⟨b, _, none⟩) hbb).trans ((hcell k (by simp [flc]; omega)).trans (flc_at bs k (by omega)))
      clear hcell
      generalize bs.getD k 0 = x at hx
      go_wp2_with fail
      refine (gLev_any x _).mono ?_
      rintro e y1 ⟨rfl, hb1⟩
      have HB1 := hd (HBN.out.trans (hb1.mono HBN.out.size))
      clear hb1 hx
      go_wp2_with fail
      refine (rLev_any x _).mono ?_
      rintro e y2 ⟨rfl, hb2⟩
      have HB2 := hd (HB1.out.trans (hb2.mono HB1.out.size))
      clear hb2
      go_wp2_with fail
      go_roundw
      case rel => exact ⟨k + 1, by omega, by go_num, HB2.out⟩
      case measure => simp [intOf]; omega
    · obtain ⟨W3, rfl⟩ : ∃ x : World, x = wr := ⟨_, rfl⟩
      have hs4 : w.heap.size < W3.heap.size := by have := HBN.out.size; omega
      have hs5 : w.heap.size + 1 < W3.heap.size := by have := HBN.out.size; omega
      replace HQ := hd ((HBN.out.block _ (by omega)).trans HQ.out)
      replace HP := hd ((HBN.out.block _ (by omega)).trans HP.out)
      replace HB := HBW
      have q00 := blk_cell HQ.out 0
      have q01 := blk_cell HQ.out 1
      have q02 := blk_cell HQ.out 2
      have q03 := blk_cell HQ.out 3
      have r00 := blk_cell HP.out 0
      have r01 := blk_cell HP.out 1
      simp at q00 q01 q02 q03 r00 r01
      clear HBW HBN hs3
      go_wp2_with fail
      go_region_held3 (fun x => x.cell? ⟨w.heap.size, 0, none⟩ = some (.string nm) ∧ x.cell? ⟨w.heap.size, 1, none⟩ = some (.int .i64 st) ∧ x.cell? ⟨w.heap.size, 2, none⟩ = some (.slice A bs.length c) ∧ x.cell? ⟨w.heap.size, 3, none⟩ = some (.slice A2 gs.length c2) ∧ x.cell? ⟨w.heap.size + 1, 0, none⟩ = some (.int .i64 f) ∧ x.cell? ⟨w.heap.size + 1, 1, none⟩ = some (.int .i64 t)) (go_keep)
        (first
          | (go_at_call 11; refine (chkSpan_any f t _).mono ?_; rintro e x1 ⟨rfl, hb⟩; have hX : Below W3.heap.size W3 x1 := ((Below.refl W3.heap.size W3).drew).trans (hb.mono ((Below.refl W3.heap.size W3).drew).size); have hq := (hX.block _ hs4).trans HQ.out; have q10 := blk_cell hq 0; have q11 := blk_cell hq 1; have q12 := blk_cell hq 2; have q13 := blk_cell hq 3; have hp := (hX.block _ hs5).trans HP.out; have r10 := blk_cell hp 0; have r11 := blk_cell hp 1; simp at q10 q11 q12 q13 r10 r11; have HX1 := hd hX; clear hX hb hq hp q00 q01 q02 q03 r00 r01)
          | (go_at_call 12; refine (refChkSpan_any f t _).mono ?_; rintro e x2 ⟨rfl, hb⟩; have hX : Below W3.heap.size W3 x2 := HX1.out.trans (hb.mono HX1.out.size); have hq := (hX.block _ hs4).trans HQ.out; have q20 := blk_cell hq 0; have q21 := blk_cell hq 1; have q22 := blk_cell hq 2; have q23 := blk_cell hq 3; have hp := (hX.block _ hs5).trans HP.out; have r20 := blk_cell hp 0; have r21 := blk_cell hp 1; simp at q20 q21 q22 q23 r20 r21; have HX2 := hd hX; clear hX hb hq hp q10 q11 q12 q13 r10 r11)
          | (go_at_call 14; refine (lawRecord_any nm st _ _ bs gs _ ((HL.out.below (HB.out.trans (HX2.out.mono HB.out.size)) (Nat.le_refl _)).mono (HB.out.trans (HX2.out.mono HB.out.size)).size) ((HG.out.below (HB.out.trans (HX2.out.mono HB.out.size)) (Nat.le_refl _)).mono (HB.out.trans (HX2.out.mono HB.out.size)).size) FL.out FG.out HN.out.1 HN.out.2).mono ?_; rintro e x3 ⟨u1, u2, rfl, hu1, hu2, -, -, hb⟩; have HU1 := hd hu1; have HU2 := hd hu2; clear hu1 hu2; have hX : Below W3.heap.size W3 x3 := HX2.out.trans (hb.mono HX2.out.size); have hq := (hX.block _ hs4).trans HQ.out; have q30 := blk_cell hq 0; have q31 := blk_cell hq 1; have q32 := blk_cell hq 2; have q33 := blk_cell hq 3; have hp := (hX.block _ hs5).trans HP.out; have r30 := blk_cell hp 0; have r31 := blk_cell hp 1; simp at q30 q31 q32 q33 r30 r31; have HX3 := hd hX; clear hX hb hq hp q20 q21 q22 q23 r20 r21)
          | (go_at_call 13; refine (chkRec_any nm st _ _ bs gs _ HU1.out HU2.out HS.out).mono ?_; rintro e x4 ⟨rfl, hb⟩; clear HU1 HU2; have hX : Below W3.heap.size W3 x4 := HX3.out.trans (hb.mono HX3.out.size); have hq := (hX.block _ hs4).trans HQ.out; have q40 := blk_cell hq 0; have q41 := blk_cell hq 1; have q42 := blk_cell hq 2; have q43 := blk_cell hq 3; have hp := (hX.block _ hs5).trans HP.out; have r40 := blk_cell hp 0; have r41 := blk_cell hp 1; simp at q40 q41 q42 q43 r40 r41; have HX4 := hd hX; clear hX hb hq hp q30 q31 q32 q33 r30 r31)
          | (go_at_call 15; refine (refRec_any nm st _ _ bs gs _ ((HL.out.below (HB.out.trans (HX4.out.mono HB.out.size)) (Nat.le_refl _)).mono (HB.out.trans (HX4.out.mono HB.out.size)).size) ((HG.out.below (HB.out.trans (HX4.out.mono HB.out.size)) (Nat.le_refl _)).mono (HB.out.trans (HX4.out.mono HB.out.size)).size) HS.out).mono ?_; rintro e x5 ⟨rfl, hb⟩; have hX : Below W3.heap.size W3 x5 := HX4.out.trans (hb.mono HX4.out.size); have hq := (hX.block _ hs4).trans HQ.out; have q50 := blk_cell hq 0; have q51 := blk_cell hq 1; have q52 := blk_cell hq 2; have q53 := blk_cell hq 3; have hp := (hX.block _ hs5).trans HP.out; have r50 := blk_cell hp 0; have r51 := blk_cell hp 1; simp at q50 q51 q52 q53 r50 r51; have HX5 := hd hX; clear hX hb hq hp q40 q41 q42 q43 r40 r41)
          | (go_at_call 17; refine (lawRules_any _ l _ ((HR.out.below (HB.out.trans (HX5.out.mono HB.out.size)) (Nat.le_refl _)).mono (HB.out.trans (HX5.out.mono HB.out.size)).size) HN2.out).mono ?_; rintro e x6 ⟨u3, rfl, hu3, hb⟩; have HU3 := hd (rd_of_own hu3); clear hu3; have hX : Below W3.heap.size W3 x6 := HX5.out.trans (hb.mono HX5.out.size); have hq := (hX.block _ hs4).trans HQ.out; have q60 := blk_cell hq 0; have q61 := blk_cell hq 1; have q62 := blk_cell hq 2; have q63 := blk_cell hq 3; have hp := (hX.block _ hs5).trans HP.out; have r60 := blk_cell hp 0; have r61 := blk_cell hp 1; simp at q60 q61 q62 q63 r60 r61; have HX6 := hd hX; clear hX hb hq hp q50 q51 q52 q53 r50 r51)
          | (go_at_call 16; refine (chkRules_any _ l _ HU3.out).mono ?_; rintro e x7 ⟨rfl, hb⟩; clear HU3; have hX : Below W3.heap.size W3 x7 := HX6.out.trans (hb.mono HX6.out.size); have hq := (hX.block _ hs4).trans HQ.out; have q70 := blk_cell hq 0; have q71 := blk_cell hq 1; have q72 := blk_cell hq 2; have q73 := blk_cell hq 3; have hp := (hX.block _ hs5).trans HP.out; have r70 := blk_cell hp 0; have r71 := blk_cell hp 1; simp at q70 q71 q72 q73 r70 r71; have HX7 := hd hX; clear hX hb hq hp q60 q61 q62 q63 r60 r61)
          | (go_at_call 18; refine (refRules_any _ l _ ((HR.out.below (HB.out.trans (HX7.out.mono HB.out.size)) (Nat.le_refl _)).mono (HB.out.trans (HX7.out.mono HB.out.size)).size)).mono ?_; rintro e x8 ⟨rfl, hb⟩; have hX : Below W3.heap.size W3 x8 := HX7.out.trans (hb.mono HX7.out.size); have hq := (hX.block _ hs4).trans HQ.out; have q80 := blk_cell hq 0; have q81 := blk_cell hq 1; have q82 := blk_cell hq 2; have q83 := blk_cell hq 3; have hp := (hX.block _ hs5).trans HP.out; have r80 := blk_cell hp 0; have r81 := blk_cell hp 1; simp at q80 q81 q82 q83 r80 r81; have HX8 := hd hX; clear hX hb hq hp q70 q71 q72 q73 r70 r71))
      go_wp2
      go_returns
      exact ⟨rfl, HB.out.trans (HX8.out.mono HB.out.size)⟩

theorem checks_any (HA : Hid Awake) (nm : ByteArray) (st f t : Int) (lv gv rv : Value) (bs : List Nat) (gs : List (Int × Int)) (l : List Ru) (w : World) (hl : Rd w w.heap.size lv bs.length (flc bs)) (hg : Rd w w.heap.size gv gs.length (spc gs)) (hr : Rd w w.heap.size rv l.length (ruc l)) (fl : Full lv) (fg : Full gv) (hs : nm.size ≤ maxLen) :
    Calls Tryz.prog 3 #[.agg #[.string nm, .int .i64 st, lv, gv], .agg #[.int .i64 f, .int .i64 t], rv] w fun e w' => e = .returned (.bool true) ∧ Below w.heap.size w w' := by
  cases h1 : shortR nm.size bs.length gs.length
  · obtain ⟨A, c, rfl, -⟩ := hl
    obtain ⟨A2, c2, rfl, -⟩ := hg
    obtain ⟨A3, c3, rfl, -⟩ := id hr
    exact checks_long HA nm st f t A A2 A3 _ c _ c2 c3 l w hr (.inl h1)
  · cases h2 : shortRu l
    · obtain ⟨A, c, rfl, -⟩ := hl
      obtain ⟨A2, c2, rfl, -⟩ := hg
      obtain ⟨A3, c3, rfl, -⟩ := id hr
      exact checks_long HA nm st f t A A2 A3 _ c _ c2 c3 l w hr (.inr h2)
    · exact checks_main HA nm st f t lv gv rv bs gs l w hl hg hr fl fg hs h1 h2
end Go.Proofs.YtmcgkpfbehlpcaaGreatDoor
