/-
  GaugeStreams (P1.5): for every record and stream, Encode and Decode answer as the document says, or the first error. Conditions: the row's own (the listed library tables as the program's text lays them, tied by the card).
-/
import Derived.Test.YtkjgofknnhngdaaGreatDoorRows
import Derived.Test.YtkjgofknnhngdaaGreatDoorCards
import Derived.Test.YtkjgofknnhngdaaGreatDoorTie
import Derived.Test.YtkjgofknnhngdaaGreatDoorRow
import Derived.SevenTiedAt
import Derived.Test.YtkjgofknnhngdaaGreatDoorOpm
import Derived.Test.YtkjgofknnhngdaaGreatDoorSE
import Derived.Test.YtkjgofknnhngdaaGreatDoorS4
import Derived.Test.YtkjgofknnhngdaaGreatDoorS5
import Derived.Test.YtkjgofknnhngdaaGreatDoorS7
import Derived.Test.YtkjgofknnhngdaaGreatDoorSB
import Derived.Test.YtkjgofknnhngdaaGreatDoorMQ
import Derived.Test.YtkjgofknnhngdaaGreatDoorM3
import Derived.Test.YtkjgofknnhngdaaGreatDoorQ4
import Derived.Test.YtkjgofknnhngdaaGreatDoorQS
namespace Go.Proofs.YtkjgofknnhngdaaGreatDoor
open Go.RowKit
attribute [local go_sem] Oper.semAt_some

set_option maxRecDepth 1000000 in
set_option maxHeartbeats 4000000 in
theorem streams_long1 (HA : Hid Awake) (nm : ByteArray) (st : Int) (A A2 A3 : Option Addr) (c c2 c3 n : Nat) (bs : List Nat) (gs : List (Int × Int)) (w : World) (S1 : Hid (shortR nm.size bs.length gs.length = false)) :
    Calls Tryz.prog 4 #[.agg #[.string nm, .int .i64 st, .slice A bs.length c, .slice A2 gs.length c2], .slice A3 n c3] w fun e w' => e = .returned (.bool true) ∧ Below w.heap.size w w' := by
  have HQ := hd (blk_new w #[.string nm, .int .i64 st, .slice A bs.length c, .slice A2 gs.length c2] 25)
  have HB := hd ((Below.refl w.heap.size w).alloc (Nat.le_refl _) (Obj.cells #[.string nm, .int .i64 st, .slice A bs.length c, .slice A2 gs.length c2] 25))
  go_enter Tryz.func4, Tryz.ntmps4
  go_wp2_with fail
  refine (HA.out _).mono ?_
  rintro e w1 ⟨rfl, hb⟩
  replace HQ := hd ((hb.block _ (blk_lt HQ.out)).trans HQ.out)
  replace HB := hd (HB.out.trans (hb.mono (HB.out.size)))
  clear hb
  have k0 := blk_cell HQ.out 0
  have k1 := blk_cell HQ.out 1
  have k2 := blk_cell HQ.out 2
  have k3 := blk_cell HQ.out 3
  simp at k0 k1 k2 k3
  go_wp2_with fail
  refine (short_any nm st A A2 bs.length c gs.length c2 _).mono ?_
  rw [S1.out]
  rintro e w2 ⟨rfl, hb⟩
  replace HB := hd (HB.out.trans (hb.mono (HB.out.size)))
  clear hb k0 k1 k2 k3
  go_wp2_with fail
  refine (HA.out _).mono ?_
  rintro e w4 ⟨rfl, hb⟩
  replace HB := hd (HB.out.trans (hb.mono (HB.out.size)))
  clear hb
  go_wp2_with fail
  go_returns
  exact ⟨rfl, HB.out⟩

set_option maxRecDepth 1000000 in
set_option maxHeartbeats 4000000 in
theorem streams_long2 (HA : Hid Awake) (nm : ByteArray) (st : Int) (A A2 A3 : Option Addr) (c c2 c3 n : Nat) (bs : List Nat) (gs : List (Int × Int)) (w : World) (S1 : Hid (shortR nm.size bs.length gs.length = true)) (hn : 500 < n) :
    Calls Tryz.prog 4 #[.agg #[.string nm, .int .i64 st, .slice A bs.length c, .slice A2 gs.length c2], .slice A3 n c3] w fun e w' => e = .returned (.bool true) ∧ Below w.heap.size w w' := by
  have HQ := hd (blk_new w #[.string nm, .int .i64 st, .slice A bs.length c, .slice A2 gs.length c2] 25)
  have HB := hd ((Below.refl w.heap.size w).alloc (Nat.le_refl _) (Obj.cells #[.string nm, .int .i64 st, .slice A bs.length c, .slice A2 gs.length c2] 25))
  have hlen : (500 : Int) < (n : Int) := by omega
  clear hn
  go_enter Tryz.func4, Tryz.ntmps4
  go_wp2_with fail
  refine (HA.out _).mono ?_
  rintro e w1 ⟨rfl, hb⟩
  replace HQ := hd ((hb.block _ (blk_lt HQ.out)).trans HQ.out)
  replace HB := hd (HB.out.trans (hb.mono (HB.out.size)))
  clear hb
  have k0 := blk_cell HQ.out 0
  have k1 := blk_cell HQ.out 1
  have k2 := blk_cell HQ.out 2
  have k3 := blk_cell HQ.out 3
  simp at k0 k1 k2 k3
  go_wp2_with fail
  refine (short_any nm st A A2 bs.length c gs.length c2 _).mono ?_
  rw [S1.out]
  rintro e w2 ⟨rfl, hb⟩
  replace HB := hd (HB.out.trans (hb.mono (HB.out.size)))
  clear hb k0 k1 k2 k3
  go_wp2_with fail
  refine (HA.out _).mono ?_
  rintro e w4 ⟨rfl, hb⟩
  replace HB := hd (HB.out.trans (hb.mono (HB.out.size)))
  clear hb
  go_wp2_with fail
  go_returns
  exact ⟨rfl, HB.out⟩

theorem shortS_len {s n m : Nat} (h : shortR s n m = true) : s ≤ 60 ∧ n ≤ 4097 ∧ m ≤ 2049 := by
  unfold shortR at h
  simp only [Bool.and_eq_true, Bool.or_eq_true, decide_eq_true_eq] at h
  omega

theorem encode_str (nm : ByteArray) (st : Int) (bs : List Nat) (gs : List (Int × Int)) (V : Valid nm st bs gs) (hn : nm.size < 256) (h32 : ∀ j, j < bs.length → bs.getD j 0 < 4294967296) : ∃ code : ByteArray,
    (∀ (W : World) (lv gv : Value), Rd W W.heap.size lv bs.length (flc bs) → Rd W W.heap.size gv gs.length (spc gs) → Calls Tryz.prog 14 #[.agg #[.string nm, .int .i64 st, lv, gv]] W (GeS code 0 W)) ∧
    (∀ (W : World) (lv gv : Value), Rd W W.heap.size lv bs.length (flc bs) → Rd W W.heap.size gv gs.length (spc gs) → Calls Tryz.prog 16 #[.agg #[.string nm, .int .i64 st, lv, gv]] W (ReS code W)) := by
  obtain ⟨B, hB⟩ := encV_str nm st bs gs hn
  have hl : (encV nm st bs gs).length = B.size := by rw [← hB, Lib.strCells_length]
  refine ⟨B, fun W lv gv h1 h2 => ?_, fun W lv gv h1 h2 => ?_⟩
  · refine (encode_any nm st lv gv bs gs W h1 h2 V).mono ?_
    rintro e w' ⟨v, rfl, hown, hb⟩
    have hs := strOf_own hown hB hl
    obtain ⟨A, c, rfl, -⟩ := own_form hown
    exact ⟨_, _, _, rfl, hb, hd hs⟩
  · refine (refEncode_any nm st lv gv bs gs W h1 h2 V h32).mono ?_
    rintro e w' ⟨v, rfl, hown, hb⟩
    have hs := strOf_own hown hB hl
    obtain ⟨A, c, rfl, -⟩ := own_form hown
    exact ⟨_, _, _, rfl, hb, hd hs⟩

theorem streams_all (HA : Hid Awake) (nm : ByteArray) (st : Int) (v2 v3 v4 : Value) (bs : List Nat) (gs : List (Int × Int)) (s : ByteArray) (w : World) (hl : Rd w w.heap.size v2 bs.length (flc bs)) (hg : Rd w w.heap.size v3 gs.length (spc gs)) (hu : Rd w w.heap.size v4 s.size (Lib.strCells s)) (fl : Full v2) (fg : Full v3) (fu : Full v4) (hs : nm.size ≤ maxLen)
    (h32 : ∀ j, j < bs.length → bs.getD j 0 < 4294967296) :
    Calls Tryz.prog 4 #[.agg #[.string nm, .int .i64 st, v2, v3], v4] w fun e w' => e = .returned (.bool true) ∧ Below w.heap.size w w' := by
  obtain ⟨A, c, rfl, -⟩ := id hl
  obtain ⟨A2, c2, rfl, -⟩ := id hg
  obtain ⟨A3, c3, rfl, -⟩ := id hu
  cases h1 : shortR nm.size bs.length gs.length
  · exact streams_long1 HA nm st A A2 A3 c c2 c3 s.size bs gs w (hd h1)
  · by_cases h5 : 500 < s.size
    · exact streams_long2 HA nm st A A2 A3 c c2 c3 s.size bs gs w (hd h1) h5
    · have h5' : s.size ≤ 500 := by omega
      have hN := shortS_len h1
      have GD := hd (fun (W : World) (A : Option Addr) (c : Nat) (h : Rd W W.heap.size (.slice A s.size c) s.size (Lib.strCells s)) => decode_any s A c W h h5')
      have RD := hd (fun (W : World) (A : Option Addr) (c : Nat) (h : Rd W W.heap.size (.slice A s.size c) s.size (Lib.strCells s)) => refDec_any s A c W h h5')
      have CR := fun (W : World) (lv gv : Value) (k1 : Rd W W.heap.size lv bs.length (flc bs)) (k2 : Rd W W.heap.size gv gs.length (spc gs)) => refRec_any nm st lv gv bs gs W k1 k2 hs
      by_cases hE : chkRec nm st bs gs = 0
      · obtain ⟨code, GE, RE⟩ := encode_str nm st bs gs (valid_of hE hs).1 (by omega) h32
        rw [hE] at CR
        exact streams_ok HA nm st A A2 A3 c c2 c3 bs gs s code w (hd hl) (hd hg) (hd hu) (hd fl) (hd fg) (hd fu) (hd h1) (hd ⟨by omega, by omega⟩) h5' (hd CR) (hd GE) (hd RE) GD RD
      · have GE := fun (W : World) (lv gv : Value) (k1 : Rd W W.heap.size lv bs.length (flc bs)) (k2 : Rd W W.heap.size gv gs.length (spc gs)) => show Calls Tryz.prog 14 #[.agg #[.string nm, .int .i64 st, lv, gv]] W (GeS ⟨#[]⟩ (chkRec nm st bs gs) W) from by
          obtain ⟨A', c', rfl, -⟩ := id k1
          obtain ⟨A2', c2', rfl, -⟩ := id k2
          refine (encode_bad nm st A' A2' c' c2' bs gs (chkRec nm st bs gs) W (hd k1) (hd k2) hs rfl (by simpa using hE)).mono ?_
          rintro e w' ⟨rfl, hb⟩
          exact ⟨none, 0, 0, rfl, hb, hd (.inl ⟨rfl, rfl⟩)⟩
        exact streams_bad HA nm st A A2 A3 c c2 c3 bs gs s (chkRec nm st bs gs) w (hd hl) (hd hg) (hd hu) (hd fl) (hd fg) (hd fu) (hd h1) (hd ⟨by omega, by omega⟩) h5' (by simpa using hE) (hd CR) (hd GE) GD RD
end Go.Proofs.YtkjgofknnhngdaaGreatDoor

namespace Go.Proofs.YtkjgofknnhngdaaGreatDoor
open Go Go.ChangeShapes Go.WideShapes Go.ChangeAt Go.RowKit Go.Joins
open Go.ChangeMaps (open_string)
set_option linter.constructorNameAsVariable false

set_option maxRecDepth 1000000 in
/-- The start that the door's own run leaves meets the row's condition on the listed variables. -/
theorem gaugeStreams_met (os : Os) (args : Array Value) : laidMetH Tryz.prog Rows.gaugeStreamsRow.laid ((World.doorLaid Tryz.prog 24 os).forCall (fun _ _ => 0) ⟨#[], args, []⟩).memory :=
  laidMetH_of_parts3 (fuel := 8) (laidMet_of_run' 8 (by kernel_rfl) (by kernel_rfl)) (by kernel_rfl) (by kernel_rfl)

set_option maxRecDepth 1000000 in
theorem gaugeStreams_lifted (os : Os) (started : os.Started) (H : Type) (enc : TypeId × Value → H) :
    ReturnsInHanded {} Tryz.checked os 4 .any (fun w args => (Rows.gaugeStreamsSpec.pre enc Tryz.prog Tryz.f4 [] false w args ∧ laidMetH Tryz.prog Rows.gaugeStreamsRow.laid w) ∧ sizedMet enc Tryz.prog Tryz.f4 (OpenSpec.ofChange Rows.gaugeStreamsSpec) false w args)
      (Rows.gaugeStreamsSpec.post enc Tryz.prog Tryz.f4 false true false false) := by
  refine returnsInHanded_of_change_and (C := Tryz.checked) (X := fun w _ => laidMetH Tryz.prog Rows.gaugeStreamsRow.laid w) (fun _ _ _ hh h => h.of_heap hh) own started (by kernel_rfl) Tryz.func4
    (ChangeSpec.witness_shaped (enc := enc) (C := Tryz.checked) (os := os) (X := fun w _ => laidMetH Tryz.prog Rows.gaugeStreamsRow.laid w) false (World.doorLaid Tryz.prog 24 os) #[.agg #[.string ⟨#[]⟩, .int .i64 0, .slice none 0 0, .slice none 0 0], .slice none 0 0] 8 rfl (World.shaped_of_RefB (by kernel_rfl) (by kernel_rfl)) (by kernel_rfl) (by kernel_rfl) (by kernel_rfl) (gaugeStreams_met os _)) ?_
  intro W base args ds gs before hval0 hW _ hsz hL _
  have hval : ∀ (j : Nat) t v, Tryz.f4.params[j]? = some t → args[j]? = some v → Value.okWide Tryz.prog W .any base t v := hval0
  have hW' := hW
  obtain ⟨p, q, hA0, hV, rfl, hfz, hnd⟩ := hW
  have hA : DataW.TrodAll enc Tryz.prog W 0 (fun _ => true) true Tryz.f4.params.toList args.toList ds p := hA0
  rw [Tryz.params4] at hA hval
  obtain ⟨rfl, rfl⟩ := trodVars_none hV
  obtain ⟨v0, v1, d0, d1, p0, p1, rfl, rfl, rfl, h0, h1⟩ := trodAll_two hA
  obtain ⟨c0, c1, c2, c3, y0, y1, y2, y3, m, rfl, rfl, rfl, hy0, hy1, hy2, hy3⟩ := open_agg4 Tryz.underlying25 (by kernel_rfl) (show Tryz.prog.cellsOf 25 = 4 by kernel_rfl) (hval 0 25 v0 rfl rfl) h0
  obtain ⟨nm, k0, -, hs⟩ := DataW.trod_string Tryz.underlying9 hy0
  obtain ⟨st, k1, -⟩ := DataW.trod_int Tryz.underlying3 hy1
  obtain ⟨bs, hl, fl, h32⟩ := open_levels32 hy2
  obtain ⟨gs, hg, fg⟩ := open_gaps hy3
  obtain ⟨A5, n5, c5, rfl⟩ := okWide_slice Tryz.underlying41 (hval 1 41 v1 rfl rfl)
  obtain ⟨fuel, hf⟩ := h1
  rw [show (Value.slice A5 n5 c5).cells.toList = [Value.slice A5 n5 c5] by simp [Value.cells]] at hf
  obtain ⟨sb, hu, fu⟩ := open_bytes hf
  simp at k0 k1
  subst k0 k1
  refine (streams_all (hd awake_any) nm st c2 c3 _ bs gs sb W hl hg hu fl fg fu hs h32).mono ?_
  rintro e W' ⟨rfl, hB⟩
  exact ⟨_, rfl, law_post rfl rfl rfl rfl rfl (fun t ht => by
    have hm : t ∈ [25, 41] := by simpa [Tryz.params4] using ht
    have hall : ([25, 41].all fun u => Tryz.prog.readableRec u && decide (u < Tryz.prog.types.size)) = true := by kernel_rfl
    simpa using List.all_eq_true.1 hall t hm) hW' hB⟩

set_option maxRecDepth 1000000 in
theorem gaugeStreams_holds : Rows.GaugeStreamsSaid :=
  OpenClaim.holds_of_wide 4 Tryz.f4 rfl rfl rfl rfl rfl rfl rfl ⟨rfl, rfl, rfl, rfl, rfl⟩ rfl rfl rfl rfl rfl (by kernel_rfl) Tryz.func4 (by kernel_rfl)
    (of_decide_eq_true (by kernel_rfl)) (by unfold Func.isWrapper; first | (rw [if_pos (by decide +kernel)]; kernel_rfl) | (rw [if_neg (by decide +kernel)]; exact ⟨rfl, rfl⟩))
    (fun os started H enc _ => gaugeStreams_lifted os started H enc)

set_option maxRecDepth 1000000 in
theorem gaugeStreams_card : Rows.GaugeStreamsCardSaid :=
  Claim7.holds_tied_plain_at .later [] [.data, .data, .data] true (true, "dfc218800829ba828b53d91ebce74cfa6575ab8293bf2580cf509742f68f57b4") false
    gaugeStreams_holds (fun _ h => by cases h) (by kernel_rfl) (fun _ h => by cases h) gaugeStreams_row_tie rfl ⟨rfl, rfl⟩ (by kernel_rfl) rfl
    (fun f fn hf hfn => by
      obtain rfl : f = 4 := Option.some.inj ((show Tryz.prog.funcNamed "tideway/tidewaylaw01.GaugeStreams" = some 4 by kernel_rfl).symm.trans hf) |>.symm
      obtain rfl : fn = Tryz.f4 := (Option.some.inj (Tryz.func4.symm.trans hfn)).symm
      exact ⟨by kernel_rfl, fun j t ht => by
        rw [Tryz.params4] at ht
        have hm : t ∈ [25, 41] := by simpa using Array.mem_of_getElem? ht
        have hall : ([25, 41].all fun u => !Tryz.prog.wantsStandIn u) = true := by kernel_rfl
        exact (show Tryz.prog.wantsStandIn t = false by simpa using List.all_eq_true.1 hall t hm)⟩)
    (by kernel_rfl)
end Go.Proofs.YtkjgofknnhngdaaGreatDoor
