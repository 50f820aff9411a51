/-
  GaugeWaters for every record, width and level.
  GaugeWaters (P1.4): for every record, width and level, Highs, Lows, Above and Summary answer as the document says. Conditions: the row's own (the listed library tables as the program's text lays them, tied by the card).
-/
import Derived.Test.YtcekfcefdmejeaaGreatDoorProg
import Derived.Test.YtcekfcefdmejeaaGreatDoorT9
import Derived.Test.YtcekfcefdmejeaaGreatDoorRows
import Derived.Test.YtcekfcefdmejeaaGreatDoorCards
import Derived.Test.YtcekfcefdmejeaaGreatDoorTie
import Derived.Test.YtcekfcefdmejeaaGreatDoorRow
import Derived.SevenTiedAt
import Derived.Test.YtcekfcefdmejeaaGreatDoorOpm
import Derived.Test.YtcekfcefdmejeaaGreatDoorM3

namespace Go.Proofs.YtcekfcefdmejeaaGreatDoor
open Go.RowKit
attribute [local go_sem] Oper.semAt_some

set_option maxRecDepth 1000000 in
set_option maxHeartbeats 4000000 in
theorem waters_long (HA : Hid Awake) (nm : ByteArray) (st wd : Int) (lev : Nat) (A A2 : Option Addr) (n c m c2 : Nat) (w : World) (h : shortR nm.size n m = false) :
    Calls Tryz.prog 5 #[.agg #[.string nm, .int .i64 st, .slice A n c, .slice A2 m c2], .int .i64 wd, .float .f32 lev] w fun e w' => e = .returned (.bool true) ∧ Below w.heap.size w w' := by
  have S1 := hd h
  have HQ := hd (blk_new w #[.string nm, .int .i64 st, .slice A n c, .slice A2 m c2] 25)
  have HB := hd ((Below.refl w.heap.size w).alloc (Nat.le_refl _) (Obj.cells #[.string nm, .int .i64 st, .slice A n c, .slice A2 m c2] 25))
  clear h
  go_enter Tryz.func5, Tryz.ntmps5
  go_wp2_with fail
  refine (HA.out _).mono ?_
  rintro e w1 ⟨rfl, hb⟩
  replace HQ := (hb.block _ (blk_lt HQ.out)).trans HQ.out
  replace HB := hd (HB.out.trans (hb.mono (HB.out.size)))
  have k0 := blk_cell HQ 0
  have k1 := blk_cell HQ 1
  have k2 := blk_cell HQ 2
  have k3 := blk_cell HQ 3
  simp at k0 k1 k2 k3
  clear hb HQ
  go_wp2_with fail
  refine (short_any nm st A A2 n c m c2 _).mono ?_
  rw [S1.out]
  rintro e w2 ⟨rfl, hb⟩
  replace HB := hd (HB.out.trans (hb.mono (HB.out.size)))
  clear hb k0 k1 k2 k3
  go_wp2_with fail
  refine (HA.out _).mono ?_
  rintro e w3 ⟨rfl, hb⟩
  replace HB := hd (HB.out.trans (hb.mono (HB.out.size)))
  clear hb
  go_wp2_with fail
  go_returns
  exact ⟨rfl, HB.out⟩

theorem short_lens {s n m : Nat} (h : shortR s n m = true) : n ≤ 4097 ∧ m ≤ 2049 := by
  unfold shortR at h
  simp only [Bool.and_eq_true, Bool.or_eq_true, decide_eq_true_eq] at h
  omega
theorem fst0_pair (a b : Int) : fst0 [a, b] = if a = 0 then b else a := by
  by_cases h : a = 0
  · simp only [fst0, h, if_true]
    split
    · rename_i h2; exact h2.symm
    · rfl
  · simp [fst0, h]

theorem waters_all (HA : Hid Awake) (nm : ByteArray) (st wd : Int) (lev : Nat) (lv gv : Value) (bs : List Nat) (gs : List (Int × Int)) (w : World) (hl : Rd w w.heap.size lv bs.length (flc bs)) (hg : Rd w w.heap.size gv gs.length (spc gs)) (fl : Full lv) (fg : Full gv) (hs : nm.size ≤ maxLen) :
    Calls Tryz.prog 5 #[.agg #[.string nm, .int .i64 st, lv, gv], .int .i64 wd, .float .f32 lev] w fun e w' => e = .returned (.bool true) ∧ Below w.heap.size w w' := by
  cases h1 : shortR nm.size bs.length gs.length
  · obtain ⟨A, c, rfl, -⟩ := hl
    obtain ⟨A2, c2, rfl, -⟩ := hg
    exact waters_long HA nm st wd lev A A2 _ c _ c2 w h1
  · have hn := short_lens h1
    obtain ⟨A, c, rfl, -⟩ := id hl
    obtain ⟨A2, c2, rfl, -⟩ := id hg
    have CR := hd (fun (W : World) (lv gv : Value) (h : Rd W W.heap.size lv bs.length (flc bs)) (h' : Rd W W.heap.size gv gs.length (spc gs)) => refRec_any nm st lv gv bs gs W h h' hs)
    by_cases hE : chkRec nm st bs gs = 0
    · obtain ⟨V, hC, hlv⟩ := valid_of hE hs
      obtain ⟨cn, sm, e4, lo, hi, lo', hi', q1, q2, q3, q4⟩ := sum_is bs gs hC hlv
      have GS := hd (fun (W : World) (lv gv : Value) (h : Rd W W.heap.size lv bs.length (flc bs)) (h' : Rd W W.heap.size gv gs.length (spc gs)) => show Calls Tryz.prog 30 #[.agg #[.string nm, .int .i64 st, lv, gv]] W fun e w' => e = .returned (.tuple #[.agg #[.int .i64 cn, .int .i64 sm, .float .f32 lo, .float .f32 hi], .int .i64 e4]) ∧ Below W.heap.size W w' from by rw [← q1]; exact summary_any nm st lv gv bs gs W h h' V)
      have RS := hd (fun (W : World) (lv gv : Value) (h : Rd W W.heap.size lv bs.length (flc bs)) (h' : Rd W W.heap.size gv gs.length (spc gs)) => show Calls Tryz.prog 34 #[.agg #[.string nm, .int .i64 st, lv, gv]] W fun e w' => e = .returned (.tuple #[.agg #[.int .i64 cn, .int .i64 sm, .float .f32 lo', .float .f32 hi'], .int .i64 e4]) ∧ Below W.heap.size W w' from by rw [← q2]; exact refSummary_any nm st lv gv bs gs W h h' hlv (by omega))
      have hfin : ∀ i, i < bs.length → finB (bs.getD i 0) = true := fun i hi => fin_lev (hlv i hi)
      by_cases hw : rng wd 1 4096 = 0
      · have hw2 : 1 ≤ wd ∧ wd ≤ 4096 := by
          unfold rng at hw
          split at hw
          · assumption
          · cases hw
        obtain ⟨k, rfl⟩ : ∃ k : Nat, wd = k := ⟨wd.toNat, by omega⟩
        have GH := hd (fun (W : World) (lv gv : Value) (h : Rd W W.heap.size lv bs.length (flc bs)) (h' : Rd W W.heap.size gv gs.length (spc gs)) => show Calls Tryz.prog 27 #[.agg #[.string nm, .int .i64 st, lv, gv], .int .i64 (k : Int)] W (GotI (wtsR bs gs k false bs.length) 0 W) from (highs_any nm st lv gv bs gs k W h h' V (by omega) (by omega)).mono fun e w' ⟨v, he, ho, hb⟩ => ⟨v, he, by rw [waters_is fgt false fgt_sv bs gs k hC hlv] at ho; exact rd_of_own ho, hb⟩)
        have GL := hd (fun (W : World) (lv gv : Value) (h : Rd W W.heap.size lv bs.length (flc bs)) (h' : Rd W W.heap.size gv gs.length (spc gs)) => show Calls Tryz.prog 28 #[.agg #[.string nm, .int .i64 st, lv, gv], .int .i64 (k : Int)] W (GotI (wtsR bs gs k true bs.length) 0 W) from (lows_any nm st lv gv bs gs k W h h' V (by omega) (by omega)).mono fun e w' ⟨v, he, ho, hb⟩ => ⟨v, he, by rw [waters_is flt true flt_sv bs gs k hC hlv] at ho; exact rd_of_own ho, hb⟩)
        have RW := hd (fun (W : World) (lv gv : Value) (h : Rd W W.heap.size lv bs.length (flc bs)) (h' : Rd W W.heap.size gv gs.length (spc gs)) => show Calls Tryz.prog 32 #[.agg #[.string nm, .int .i64 st, lv, gv], .int .i64 (k : Int), .float .f32 1065353216] W (OwnsIn W.heap.size (wtsR bs gs k false bs.length) W) from refWaters_any nm st lv gv bs gs k false W h h' hfin (by omega) (by omega))
        have RV := hd (fun (W : World) (lv gv : Value) (h : Rd W W.heap.size lv bs.length (flc bs)) (h' : Rd W W.heap.size gv gs.length (spc gs)) => show Calls Tryz.prog 32 #[.agg #[.string nm, .int .i64 st, lv, gv], .int .i64 (k : Int), .float .f32 3212836864] W (OwnsIn W.heap.size (wtsR bs gs k true bs.length) W) from refWaters_any nm st lv gv bs gs k true W h h' hfin (by omega) (by omega))
        by_cases hv : chkLev lev = 0
        · have GA := hd (fun (W : World) (lv gv : Value) (h : Rd W W.heap.size lv bs.length (flc bs)) (h' : Rd W W.heap.size gv gs.length (spc gs)) => show Calls Tryz.prog 29 #[.agg #[.string nm, .int .i64 st, lv, gv], .float .f32 lev] W (GotS (strF (abvL bs gs lev) bs.length) 0 W) from (callsIn_wide.1 (above_in nm st lev lv gv bs gs W h h' V (by rw [levOK_iff]; simpa using hv))).mono fun e w' ⟨v, he, ho, hb⟩ => ⟨v, he, by rw [above_is bs gs lev hC hlv (fin_lev hv)] at ho; exact rd_of_own ho, hb⟩)
          have RA := hd (fun (W : World) (lv gv : Value) (h : Rd W W.heap.size lv bs.length (flc bs)) (h' : Rd W W.heap.size gv gs.length (spc gs)) => refAbove_any nm st lv gv bs gs lev W h h' hfin (fin_lev hv) (by omega))
          exact waters_111 HA nm st k lev A A2 c c2 bs gs _ _ _ _ 0 0 cn sm e4 lo hi lo' hi' w (hd hl) (hd hg) (hd fl) (hd fg) (hd h1) (hd ⟨by omega, by omega⟩) CR (hd (by rw [fst0_pair, if_pos hE]; exact hw)) rfl (hd (by rw [fst0_pair, if_pos hE]; exact hv)) rfl (by rw [hE]; rfl) GH GL GA GS RW RV RA RS q3 q4
        · have h3 : fst0 [chkRec nm st bs gs, chkLev lev] = chkLev lev := by rw [fst0_pair, if_pos hE]
          have GA := hd (fun (W : World) (lv gv : Value) (h : Rd W W.heap.size lv bs.length (flc bs)) (h' : Rd W W.heap.size gv gs.length (spc gs)) => show Calls Tryz.prog 29 #[.agg #[.string nm, .int .i64 st, lv, gv], .float .f32 lev] W (GotS [] (chkLev lev) W) from by
            obtain ⟨A, c, rfl, -⟩ := id h
            obtain ⟨A2, c2, rfl, -⟩ := id h'
            exact (above_bad nm st A A2 c c2 bs gs lev _ W (hd h) (hd h') hs h3 (by simpa using hv)).mono fun e w' ⟨he, hb⟩ => ⟨_, he, Rd.nil _ _, hb⟩)
          exact waters_101 HA nm st k lev A A2 c c2 bs gs _ _ _ 0 _ cn sm e4 lo hi lo' hi' w (hd hl) (hd hg) (hd fl) (hd fg) (hd h1) (hd ⟨by omega, by omega⟩) CR (hd (by rw [fst0_pair, if_pos hE]; exact hw)) rfl (hd h3) (by simpa using hv) (by rw [hE]; rfl) GH GL GA GS RW RV RS q3 q4
      · have h2 : fst0 [chkRec nm st bs gs, rng wd 1 4096] = rng wd 1 4096 := by rw [fst0_pair, if_pos hE]
        have GH := hd (fun (W : World) (lv gv : Value) (h : Rd W W.heap.size lv bs.length (flc bs)) (h' : Rd W W.heap.size gv gs.length (spc gs)) => show Calls Tryz.prog 27 #[.agg #[.string nm, .int .i64 st, lv, gv], .int .i64 wd] W (GotI [] (rng wd 1 4096) W) from by
          obtain ⟨A, c, rfl, -⟩ := id h
          obtain ⟨A2, c2, rfl, -⟩ := id h'
          exact (highs_bad nm st A A2 c c2 bs gs wd _ W (hd h) (hd h') hs h2 (by simpa using hw)).mono fun e w' ⟨he, hb⟩ => ⟨_, he, Rd.nil _ _, hb⟩)
        have GL := hd (fun (W : World) (lv gv : Value) (h : Rd W W.heap.size lv bs.length (flc bs)) (h' : Rd W W.heap.size gv gs.length (spc gs)) => show Calls Tryz.prog 28 #[.agg #[.string nm, .int .i64 st, lv, gv], .int .i64 wd] W (GotI [] (rng wd 1 4096) W) from by
          obtain ⟨A, c, rfl, -⟩ := id h
          obtain ⟨A2, c2, rfl, -⟩ := id h'
          exact (lows_bad nm st A A2 c c2 bs gs wd _ W (hd h) (hd h') hs h2 (by simpa using hw)).mono fun e w' ⟨he, hb⟩ => ⟨_, he, Rd.nil _ _, hb⟩)
        by_cases hv : chkLev lev = 0
        · have GA := hd (fun (W : World) (lv gv : Value) (h : Rd W W.heap.size lv bs.length (flc bs)) (h' : Rd W W.heap.size gv gs.length (spc gs)) => show Calls Tryz.prog 29 #[.agg #[.string nm, .int .i64 st, lv, gv], .float .f32 lev] W (GotS (strF (abvL bs gs lev) bs.length) 0 W) from (callsIn_wide.1 (above_in nm st lev lv gv bs gs W h h' V (by rw [levOK_iff]; simpa using hv))).mono fun e w' ⟨v, he, ho, hb⟩ => ⟨v, he, by rw [above_is bs gs lev hC hlv (fin_lev hv)] at ho; exact rd_of_own ho, hb⟩)
          have RA := hd (fun (W : World) (lv gv : Value) (h : Rd W W.heap.size lv bs.length (flc bs)) (h' : Rd W W.heap.size gv gs.length (spc gs)) => refAbove_any nm st lv gv bs gs lev W h h' hfin (fin_lev hv) (by omega))
          exact waters_011 HA nm st wd lev A A2 c c2 bs gs _ _ _ 0 cn sm e4 lo hi lo' hi' w (hd hl) (hd hg) (hd fl) (hd fg) (hd h1) (hd ⟨by omega, by omega⟩) CR (hd h2) (by simpa using hw) (hd (by rw [fst0_pair, if_pos hE]; exact hv)) rfl (by rw [hE]; rfl) GH GL GA GS RA RS q3 q4
        · have h3 : fst0 [chkRec nm st bs gs, chkLev lev] = chkLev lev := by rw [fst0_pair, if_pos hE]
          have GA := hd (fun (W : World) (lv gv : Value) (h : Rd W W.heap.size lv bs.length (flc bs)) (h' : Rd W W.heap.size gv gs.length (spc gs)) => show Calls Tryz.prog 29 #[.agg #[.string nm, .int .i64 st, lv, gv], .float .f32 lev] W (GotS [] (chkLev lev) W) from by
            obtain ⟨A, c, rfl, -⟩ := id h
            obtain ⟨A2, c2, rfl, -⟩ := id h'
            exact (above_bad nm st A A2 c c2 bs gs lev _ W (hd h) (hd h') hs h3 (by simpa using hv)).mono fun e w' ⟨he, hb⟩ => ⟨_, he, Rd.nil _ _, hb⟩)
          exact waters_001 HA nm st wd lev A A2 c c2 bs gs _ _ _ cn sm e4 lo hi lo' hi' w (hd hl) (hd hg) (hd fl) (hd fg) (hd h1) (hd ⟨by omega, by omega⟩) CR (hd h2) (by simpa using hw) (hd h3) (by simpa using hv) (by rw [hE]; rfl) GH GL GA GS RS q3 q4
    · have h2 : fst0 [chkRec nm st bs gs, rng wd 1 4096] = chkRec nm st bs gs := by rw [fst0_pair, if_neg hE]
      have h3 : fst0 [chkRec nm st bs gs, chkLev lev] = chkRec nm st bs gs := by rw [fst0_pair, if_neg hE]
      have hb : (chkRec nm st bs gs != 0) = true := by simpa using hE
      have he : (chkRec nm st bs gs == 0) = false := by simpa using hE
      have GH := hd (fun (W : World) (lv gv : Value) (h : Rd W W.heap.size lv bs.length (flc bs)) (h' : Rd W W.heap.size gv gs.length (spc gs)) => show Calls Tryz.prog 27 #[.agg #[.string nm, .int .i64 st, lv, gv], .int .i64 wd] W (GotI [] (chkRec nm st bs gs) W) from by
        obtain ⟨A, c, rfl, -⟩ := id h
        obtain ⟨A2, c2, rfl, -⟩ := id h'
        exact (highs_bad nm st A A2 c c2 bs gs wd _ W (hd h) (hd h') hs h2 hb).mono fun e w' ⟨he, hb⟩ => ⟨_, he, Rd.nil _ _, hb⟩)
      have GL := hd (fun (W : World) (lv gv : Value) (h : Rd W W.heap.size lv bs.length (flc bs)) (h' : Rd W W.heap.size gv gs.length (spc gs)) => show Calls Tryz.prog 28 #[.agg #[.string nm, .int .i64 st, lv, gv], .int .i64 wd] W (GotI [] (chkRec nm st bs gs) W) from by
        obtain ⟨A, c, rfl, -⟩ := id h
        obtain ⟨A2, c2, rfl, -⟩ := id h'
        exact (lows_bad nm st A A2 c c2 bs gs wd _ W (hd h) (hd h') hs h2 hb).mono fun e w' ⟨he, hb⟩ => ⟨_, he, Rd.nil _ _, hb⟩)
      have GA := hd (fun (W : World) (lv gv : Value) (h : Rd W W.heap.size lv bs.length (flc bs)) (h' : Rd W W.heap.size gv gs.length (spc gs)) => show Calls Tryz.prog 29 #[.agg #[.string nm, .int .i64 st, lv, gv], .float .f32 lev] W (GotS [] (chkRec nm st bs gs) W) from by
        obtain ⟨A, c, rfl, -⟩ := id h
        obtain ⟨A2, c2, rfl, -⟩ := id h'
        exact (above_bad nm st A A2 c c2 bs gs lev _ W (hd h) (hd h') hs h3 hb).mono fun e w' ⟨he, hb⟩ => ⟨_, he, Rd.nil _ _, hb⟩)
      have GS := hd (fun (W : World) (lv gv : Value) (h : Rd W W.heap.size lv bs.length (flc bs)) (h' : Rd W W.heap.size gv gs.length (spc gs)) => show Calls Tryz.prog 30 #[.agg #[.string nm, .int .i64 st, lv, gv]] W fun e w' => e = .returned (.tuple #[.agg #[.int .i64 0, .int .i64 0, .float .f32 0, .float .f32 0], .int .i64 (chkRec nm st bs gs)]) ∧ Below W.heap.size W w' from by
        obtain ⟨A, c, rfl, -⟩ := id h
        obtain ⟨A2, c2, rfl, -⟩ := id h'
        exact summary_bad nm st A A2 c c2 bs gs _ W (hd h) (hd h') hs rfl hb)
      exact waters_000 HA nm st wd lev A A2 c c2 bs gs _ _ _ 0 0 _ 0 0 w (hd hl) (hd hg) (hd fl) (hd fg) (hd h1) (hd ⟨by omega, by omega⟩) CR (hd h2) he (hd h3) he he GH GL GA GS ⟨rfl, rfl, rfl, rfl, rfl⟩
end Go.Proofs.YtcekfcefdmejeaaGreatDoor

namespace Go.Proofs.YtcekfcefdmejeaaGreatDoor
open Go Go.ChangeShapes Go.WideShapes Go.ChangeAt Go.RowKit Go.Joins
open Go.ChangeMaps (open_string)
set_option linter.constructorNameAsVariable false

theorem okWide_f32 {W : World} {base : Nat} {v : Value} (h : Value.okWide Tryz.prog W .any base 62 v) : ∃ b, v = .float .f32 b := by
  simp only [Value.okWide, Tryz.underlying62, Cell.okWide] at h
  cases v <;> simp_all [Cell.ok]

set_option maxRecDepth 1000000 in
/-- The start that the door's own run leaves meets the row's condition on the listed variables. -/
theorem gaugeWaters_met (os : Os) (args : Array Value) : laidMetH Tryz.prog Rows.gaugeWatersRow.laid ((World.doorLaid Tryz.prog 24 os).forCall (fun _ _ => 0) ⟨#[], args, []⟩).memory :=
  laidMetH_of_parts3 (fuel := 8) (laidMet_of_run' 8 (by kernel_rfl) (by kernel_rfl)) (by kernel_rfl) (by kernel_rfl)

set_option maxRecDepth 1000000 in
theorem gaugeWaters_lifted (os : Os) (started : os.Started) (H : Type) (enc : TypeId × Value → H) :
    ReturnsInHanded {} Tryz.checked os 5 .any (fun w args => (Rows.gaugeWatersSpec.pre enc Tryz.prog Tryz.f5 [] false w args ∧ laidMetH Tryz.prog Rows.gaugeWatersRow.laid w) ∧ sizedMet enc Tryz.prog Tryz.f5 (OpenSpec.ofChange Rows.gaugeWatersSpec) false w args)
      (Rows.gaugeWatersSpec.post enc Tryz.prog Tryz.f5 false true false false) := by
  refine returnsInHanded_of_change_and (C := Tryz.checked) (X := fun w _ => laidMetH Tryz.prog Rows.gaugeWatersRow.laid w) (fun _ _ _ hh h => h.of_heap hh) own started (by kernel_rfl) Tryz.func5
    (ChangeSpec.witness_shaped (enc := enc) (C := Tryz.checked) (os := os) (X := fun w _ => laidMetH Tryz.prog Rows.gaugeWatersRow.laid w) false (World.doorLaid Tryz.prog 24 os) #[.agg #[.string ⟨#[]⟩, .int .i64 0, .slice none 0 0, .slice none 0 0], .int .i64 0, .float .f32 0] 8 rfl (World.shaped_of_RefB (by kernel_rfl) (by kernel_rfl)) (by kernel_rfl) (by kernel_rfl) (by kernel_rfl) (gaugeWaters_met os _)) ?_
  intro W base args ds gs before hval0 hW _ hsz hL _
  have hval : ∀ (j : Nat) t v, Tryz.f5.params[j]? = some t → args[j]? = some v → Value.okWide Tryz.prog W .any base t v := hval0
  have hW' := hW
  obtain ⟨p, q, hA0, hV, rfl, hfz, hnd⟩ := hW
  have hA : DataW.TrodAll enc Tryz.prog W 0 (fun _ => true) true Tryz.f5.params.toList args.toList ds p := hA0
  rw [Tryz.params5] at hA hval
  obtain ⟨rfl, rfl⟩ := trodVars_none hV
  obtain ⟨v0, v1, v2, d0, d1, d2, p0, p1, p2, rfl, rfl, rfl, h0, h1, h2⟩ := trodAll_three hA
  obtain ⟨c0, c1, c2, c3, y0, y1, y2, y3, m, rfl, rfl, rfl, hy0, hy1, hy2, hy3⟩ := open_agg4 Tryz.underlying25 (by kernel_rfl) (show Tryz.prog.cellsOf 25 = 4 by kernel_rfl) (hval 0 25 v0 rfl rfl) h0
  obtain ⟨nm, k0, -, hs⟩ := DataW.trod_string Tryz.underlying9 hy0
  obtain ⟨st, k1, -⟩ := DataW.trod_int Tryz.underlying3 hy1
  obtain ⟨bs, hl, fl⟩ := open_levels hy2
  obtain ⟨gs, hg, fg⟩ := open_gaps hy3
  obtain ⟨wd, rfl, rfl, rfl, -⟩ := open_int Tryz.underlying3 (hval 1 3 v1 rfl rfl) h1
  obtain ⟨lev, rfl⟩ := okWide_f32 (hval 2 62 v2 rfl rfl)
  simp at k0 k1
  subst k0 k1
  refine (waters_all (hd awake_any) nm st wd lev c2 c3 bs gs W hl hg fl fg hs).mono ?_
  rintro e W' ⟨rfl, hB⟩
  exact ⟨_, rfl, law_post rfl rfl rfl rfl rfl (fun t ht => by
    have hm : t ∈ [25, 3, 62] := by simpa [Tryz.params5] using ht
    have hall : ([25, 3, 62].all fun u => Tryz.prog.readableRec u && decide (u < Tryz.prog.types.size)) = true := by kernel_rfl
    simpa using List.all_eq_true.1 hall t hm) hW' hB⟩

set_option maxRecDepth 1000000 in
theorem gaugeWaters_holds : Rows.GaugeWatersSaid :=
  OpenClaim.holds_of_wide 5 Tryz.f5 rfl rfl rfl rfl rfl rfl rfl ⟨rfl, rfl, rfl, rfl, rfl⟩ rfl rfl rfl rfl rfl (by kernel_rfl) Tryz.func5 (by kernel_rfl)
    (of_decide_eq_true (by kernel_rfl)) (by unfold Func.isWrapper; first | (rw [if_pos (by decide +kernel)]; kernel_rfl) | (rw [if_neg (by decide +kernel)]; exact ⟨rfl, rfl⟩))
    (fun os started H enc _ => gaugeWaters_lifted os started H enc)

set_option maxRecDepth 1000000 in
theorem gaugeWaters_card : Rows.GaugeWatersCardSaid :=
  Claim7.holds_tied_plain_at .later [] [.data, .data, .data] true (true, "ed85a31b79f949fb922d680dd2efdd363b6bb0dd79607c435783727d02f07b86") false
    gaugeWaters_holds (fun _ h => by cases h) (by kernel_rfl) (fun _ h => by cases h) gaugeWaters_row_tie rfl ⟨rfl, rfl⟩ (by kernel_rfl) rfl
    (fun f fn hf hfn => by
      obtain rfl : f = 5 := Option.some.inj ((show Tryz.prog.funcNamed "tideway/tidewaylaw01.GaugeWaters" = some 5 by kernel_rfl).symm.trans hf) |>.symm
      obtain rfl : fn = Tryz.f5 := (Option.some.inj (Tryz.func5.symm.trans hfn)).symm
      exact ⟨by kernel_rfl, fun j t ht => by
        rw [Tryz.params5] at ht
        have hm : t ∈ [25, 3, 62] := by simpa using Array.mem_of_getElem? ht
        have hall : ([25, 3, 62].all fun u => !Tryz.prog.wantsStandIn u) = true := by kernel_rfl
        exact (show Tryz.prog.wantsStandIn t = false by simpa using List.all_eq_true.1 hall t hm)⟩)
    (by kernel_rfl)
end Go.Proofs.YtcekfcefdmejeaaGreatDoor
