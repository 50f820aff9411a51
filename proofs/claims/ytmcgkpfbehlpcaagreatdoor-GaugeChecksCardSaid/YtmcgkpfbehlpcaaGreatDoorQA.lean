/-
  GaugeChecks (P1.1, P1.2, P1.3): for every record, span and list of rules, CheckLevel, CheckSpan, CheckRecord and CheckRules answer as the document says. Conditions: the row's own (the listed library tables as the program's text lays them, tied by the card).
-/
import Derived.Test.YtmcgkpfbehlpcaaGreatDoorRows
import Derived.Test.YtmcgkpfbehlpcaaGreatDoorCards
import Derived.Test.YtmcgkpfbehlpcaaGreatDoorTie
import Derived.Test.YtmcgkpfbehlpcaaGreatDoorRow
import Derived.SevenTiedAt
import Derived.Test.YtmcgkpfbehlpcaaGreatDoorOpm
import Derived.Test.YtmcgkpfbehlpcaaGreatDoorQ9
import Derived.Test.YtmcgkpfbehlpcaaGreatDoorM3
namespace Go.Proofs.YtmcgkpfbehlpcaaGreatDoor
open Go Go.ChangeShapes Go.WideShapes Go.ChangeAt Go.RowKit Go.Joins
open Go.ChangeMaps (open_string)

set_option maxRecDepth 1000000 in
/-- The start that the door's own run leaves meets the row's condition on the listed variables. -/
theorem gaugeChecks_met (os : Os) (args : Array Value) : laidMetH Tryz.prog Rows.gaugeChecksRow.laid ((World.doorLaid Tryz.prog 24 os).forCall (fun _ _ => 0) ⟨#[], args, []⟩).memory :=
  laidMetH_of_parts3 (fuel := 8) (laidMet_of_run' 8 (by kernel_rfl) (by kernel_rfl)) (by kernel_rfl) (by kernel_rfl)

set_option maxRecDepth 1000000 in
theorem gaugeChecks_lifted (os : Os) (started : os.Started) (H : Type) (enc : TypeId × Value → H) :
    ReturnsInHanded {} Tryz.checked os 3 .any (fun w args => (Rows.gaugeChecksSpec.pre enc Tryz.prog Tryz.f3 [] false w args ∧ laidMetH Tryz.prog Rows.gaugeChecksRow.laid w) ∧ sizedMet enc Tryz.prog Tryz.f3 (OpenSpec.ofChange Rows.gaugeChecksSpec) false w args)
      (Rows.gaugeChecksSpec.post enc Tryz.prog Tryz.f3 false true false false) := by
  refine returnsInHanded_of_change_and (C := Tryz.checked) (X := fun w _ => laidMetH Tryz.prog Rows.gaugeChecksRow.laid w) (fun _ _ _ hh h => h.of_heap hh) own started (by kernel_rfl) Tryz.func3
    (ChangeSpec.witness_shaped (enc := enc) (C := Tryz.checked) (os := os) (X := fun w _ => laidMetH Tryz.prog Rows.gaugeChecksRow.laid w) false (World.doorLaid Tryz.prog 24 os) #[.agg #[.string ⟨#[]⟩, .int .i64 0, .slice none 0 0, .slice none 0 0], .agg #[.int .i64 0, .int .i64 0], .slice none 0 0] 8 rfl (World.shaped_of_RefB (by kernel_rfl) (by kernel_rfl)) (by kernel_rfl) (by kernel_rfl) (by kernel_rfl) (gaugeChecks_met os _)) ?_
  intro W base args ds gs before hval0 hW _ hsz hL _
  have hval : ∀ (j : Nat) t v, Tryz.f3.params[j]? = some t → args[j]? = some v → Value.okWide Tryz.prog W .any base t v := hval0
  have hW' := hW
  obtain ⟨p, q, hA0, hV, rfl, hfz, hnd⟩ := hW
  have hA : DataW.TrodAll enc Tryz.prog W 0 (fun _ => true) true Tryz.f3.params.toList args.toList ds p := hA0
  rw [Tryz.params3] at hA hval
  obtain ⟨rfl, rfl⟩ := trodVars_none hV
  obtain ⟨v0, v1, v2, d0, d1, d2, p0, p1, p2, rfl, rfl, rfl, h0, h1, h2⟩ := trodAll_three hA
  obtain ⟨c0, c1, c2, c3, y0, y1, y2, y3, m, rfl, rfl, rfl, hy0, hy1, hy2, hy3⟩ := open_agg4 Tryz.underlying25 (by kernel_rfl) (show Tryz.prog.cellsOf 25 = 4 by kernel_rfl) (hval 0 25 v0 rfl rfl) h0
  obtain ⟨e0, e1, z0, z1, m1, rfl, rfl, rfl, hz0, hz1⟩ := open_agg2 Tryz.underlying27 (by kernel_rfl) (show Tryz.prog.cellsOf 27 = 2 by kernel_rfl) (hval 1 27 v1 rfl rfl) h1
  obtain ⟨nm, k0, -, hs⟩ := DataW.trod_string Tryz.underlying9 hy0
  obtain ⟨st, k1, -⟩ := DataW.trod_int Tryz.underlying3 hy1
  obtain ⟨bs, hl, fl⟩ := open_levels hy2
  obtain ⟨gs, hg, fg⟩ := open_gaps hy3
  obtain ⟨f, k2, -⟩ := DataW.trod_int Tryz.underlying3 hz0
  obtain ⟨t, k3, -⟩ := DataW.trod_int Tryz.underlying3 hz1
  obtain ⟨A5, n5, c5, rfl⟩ := okWide_slice Tryz.underlying28 (hval 2 28 v2 rfl rfl)
  obtain ⟨fuel, hf⟩ := h2
  rw [show (Value.slice A5 n5 c5).cells.toList = [Value.slice A5 n5 c5] by simp [Value.cells]] at hf
  obtain ⟨l, hr⟩ := open_rules hf
  simp at k0 k1 k2 k3
  subst k0 k1 k2 k3
  refine (checks_any (hd awake_any) nm st f t c2 c3 _ bs gs l W hl hg hr fl fg hs).mono ?_
  rintro e W' ⟨rfl, hB⟩
  exact ⟨_, rfl, law_post rfl rfl rfl rfl rfl (fun t ht => by
    have hm : t ∈ [25, 27, 28] := by simpa [Tryz.params3] using ht
    have hall : ([25, 27, 28].all fun u => Tryz.prog.readableRec u && decide (u < Tryz.prog.types.size)) = true := by kernel_rfl
    simpa using List.all_eq_true.1 hall t hm) hW' hB⟩

set_option maxRecDepth 1000000 in
theorem gaugeChecks_holds : Rows.GaugeChecksSaid :=
  OpenClaim.holds_of_wide 3 Tryz.f3 rfl rfl rfl rfl rfl rfl rfl ⟨rfl, rfl, rfl, rfl, rfl⟩ rfl rfl rfl rfl rfl (by kernel_rfl) Tryz.func3 (by kernel_rfl)
    (of_decide_eq_true (by kernel_rfl)) (by unfold Func.isWrapper; first | (rw [if_pos (by decide +kernel)]; kernel_rfl) | (rw [if_neg (by decide +kernel)]; exact ⟨rfl, rfl⟩))
    (fun os started H enc _ => gaugeChecks_lifted os started H enc)

set_option maxRecDepth 1000000 in
theorem gaugeChecks_card : Rows.GaugeChecksCardSaid :=
  Claim7.holds_tied_plain_at .later [] [.data, .data, .data] true (true, "402f8e3334ee9a0783c3f6a5770b53eee9757ea6fe013d20926b16b3e92d9c3f") false
    gaugeChecks_holds (fun _ h => by cases h) (by kernel_rfl) (fun _ h => by cases h) gaugeChecks_row_tie rfl ⟨rfl, rfl⟩ (by kernel_rfl) rfl
    (fun f fn hf hfn => by
      obtain rfl : f = 3 := Option.some.inj ((show Tryz.prog.funcNamed "tideway/tidewaylaw01.GaugeChecks" = some 3 by kernel_rfl).symm.trans hf) |>.symm
      obtain rfl : fn = Tryz.f3 := (Option.some.inj (Tryz.func3.symm.trans hfn)).symm
      exact ⟨by kernel_rfl, fun j t ht => by
        rw [Tryz.params3] at ht
        have hm : t ∈ [25, 27, 28] := by simpa using Array.mem_of_getElem? ht
        have hall : ([25, 27, 28].all fun u => !Tryz.prog.wantsStandIn u) = true := by kernel_rfl
        exact (show Tryz.prog.wantsStandIn t = false by simpa using List.all_eq_true.1 hall t hm)⟩)
    (by kernel_rfl)
end Go.Proofs.YtmcgkpfbehlpcaaGreatDoor
