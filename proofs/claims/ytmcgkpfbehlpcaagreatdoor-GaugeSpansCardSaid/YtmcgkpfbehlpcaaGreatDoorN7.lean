/-
  GaugeSpans (P1.2): for every two lists of spans, CheckSpans, Join, Meet and Minus answer as the document says. Conditions: the row's own (the listed library tables as the program's text lays them, tied by the card).
-/
import Derived.Test.YtmcgkpfbehlpcaaGreatDoorRows
import Derived.Test.YtmcgkpfbehlpcaaGreatDoorCards
import Derived.Test.YtmcgkpfbehlpcaaGreatDoorTie
import Derived.Test.YtmcgkpfbehlpcaaGreatDoorRow
import Derived.SevenTiedAt
import Derived.Test.YtmcgkpfbehlpcaaGreatDoorOpn
import Derived.Test.YtmcgkpfbehlpcaaGreatDoorN6
import Derived.Test.YtmcgkpfbehlpcaaGreatDoorM3
namespace Go.Proofs.YtmcgkpfbehlpcaaGreatDoor
open Go Go.ChangeShapes Go.WideShapes Go.ChangeAt Go.RowKit Go.Joins
open Go.ChangeMaps (open_string)

set_option maxRecDepth 1000000 in
/-- The start that the door's own run leaves meets the row's condition on the listed variables. -/
theorem gaugeSpans_met (os : Os) (args : Array Value) : laidMetH Tryz.prog Rows.gaugeSpansRow.laid ((World.doorLaid Tryz.prog 24 os).forCall (fun _ _ => 0) ⟨#[], args, []⟩).memory :=
  laidMetH_of_parts3 (fuel := 8) (laidMet_of_run' 8 (by kernel_rfl) (by kernel_rfl)) (by kernel_rfl) (by kernel_rfl)

set_option maxRecDepth 1000000 in
theorem gaugeSpans_lifted (os : Os) (started : os.Started) (H : Type) (enc : TypeId × Value → H) :
    ReturnsInHanded {} Tryz.checked os 4 .any (fun w args => (Rows.gaugeSpansSpec.pre enc Tryz.prog Tryz.f4 [] false w args ∧ laidMetH Tryz.prog Rows.gaugeSpansRow.laid w) ∧ sizedMet enc Tryz.prog Tryz.f4 (OpenSpec.ofChange Rows.gaugeSpansSpec) false w args)
      (Rows.gaugeSpansSpec.post enc Tryz.prog Tryz.f4 false true false false) := by
  refine returnsInHanded_of_change_and (C := Tryz.checked) (X := fun w _ => laidMetH Tryz.prog Rows.gaugeSpansRow.laid w) (fun _ _ _ hh h => h.of_heap hh) own started (by kernel_rfl) Tryz.func4
    (ChangeSpec.witness_shaped (enc := enc) (C := Tryz.checked) (os := os) (X := fun w _ => laidMetH Tryz.prog Rows.gaugeSpansRow.laid w) false (World.doorLaid Tryz.prog 24 os) #[.slice none 0 0, .slice none 0 0] 8 rfl (World.shaped_of_RefB (by kernel_rfl) (by kernel_rfl)) (by kernel_rfl) (by kernel_rfl) (by kernel_rfl) (gaugeSpans_met os _)) ?_
  intro W base args ds gs before hval0 hW _ hsz hL _
  have hval : ∀ (j : Nat) t v, Tryz.f4.params[j]? = some t → args[j]? = some v → Value.okWide Tryz.prog W .any base t v := hval0
  have hW' := hW
  obtain ⟨p, q, hA0, hV, rfl, hfz, hnd⟩ := hW
  have hA : DataW.TrodAll enc Tryz.prog W 0 (fun _ => true) true Tryz.f4.params.toList args.toList ds p := hA0
  rw [Tryz.params4] at hA hval
  obtain ⟨rfl, rfl⟩ := trodVars_none hV
  obtain ⟨v0, v1, d0, d1, p0, p1, rfl, rfl, rfl, h0, h1⟩ := trodAll_two hA
  obtain ⟨a, ra, fa⟩ := open_spans (hval 0 23 v0 rfl rfl) h0
  obtain ⟨b, rb, fb⟩ := open_spans (hval 1 23 v1 rfl rfl) h1
  refine (spans_any (hd awake_any) v0 v1 a b W ra rb fa fb).mono ?_
  rintro e W' ⟨rfl, hB⟩
  exact ⟨_, rfl, law_post rfl rfl rfl rfl rfl (fun t ht => by
    have hm : t ∈ [23, 23] := by simpa [Tryz.params4] using ht
    have hall : ([23, 23].all fun u => Tryz.prog.readableRec u && decide (u < Tryz.prog.types.size)) = true := by kernel_rfl
    simpa using List.all_eq_true.1 hall t hm) hW' hB⟩

set_option maxRecDepth 1000000 in
theorem gaugeSpans_holds : Rows.GaugeSpansSaid :=
  OpenClaim.holds_of_wide 4 Tryz.f4 rfl rfl rfl rfl rfl rfl rfl ⟨rfl, rfl, rfl, rfl, rfl⟩ rfl rfl rfl rfl rfl (by kernel_rfl) Tryz.func4 (by kernel_rfl)
    (of_decide_eq_true (by kernel_rfl)) (by unfold Func.isWrapper; first | (rw [if_pos (by decide +kernel)]; kernel_rfl) | (rw [if_neg (by decide +kernel)]; exact ⟨rfl, rfl⟩))
    (fun os started H enc _ => gaugeSpans_lifted os started H enc)

set_option maxRecDepth 1000000 in
theorem gaugeSpans_card : Rows.GaugeSpansCardSaid :=
  Claim7.holds_tied_plain_at .later [] [.data, .data, .data] true (true, "402f8e3334ee9a0783c3f6a5770b53eee9757ea6fe013d20926b16b3e92d9c3f") false
    gaugeSpans_holds (fun _ h => by cases h) (by kernel_rfl) (fun _ h => by cases h) gaugeSpans_row_tie rfl ⟨rfl, rfl⟩ (by kernel_rfl) rfl
    (fun f fn hf hfn => by
      obtain rfl : f = 4 := Option.some.inj ((show Tryz.prog.funcNamed "tideway/tidewaylaw01.GaugeSpans" = some 4 by kernel_rfl).symm.trans hf) |>.symm
      obtain rfl : fn = Tryz.f4 := (Option.some.inj (Tryz.func4.symm.trans hfn)).symm
      exact ⟨by kernel_rfl, fun j t ht => by
        rw [Tryz.params4] at ht
        have hm : t ∈ [23, 23] := by simpa using Array.mem_of_getElem? ht
        have hall : ([23, 23].all fun u => !Tryz.prog.wantsStandIn u) = true := by kernel_rfl
        exact (show Tryz.prog.wantsStandIn t = false by simpa using List.all_eq_true.1 hall t hm)⟩)
    (by kernel_rfl)
end Go.Proofs.YtmcgkpfbehlpcaaGreatDoor
