/-
  TopSkipperVotes (J1): for any two records, tolerance and width, the vote of two equal gauges and a third one, in either place, is the record of these two, with its gaps and its high waters; the two never deviate, and the third one does just where both are recorded and differ by more than the tolerance. Conditions: the row's own (the listed library tables as the program's text lays them, tied by the card).
-/
import Derived.Test.YtkgeeooijgcdkaaGreatDoorRows
import Derived.Test.YtkgeeooijgcdkaaGreatDoorCards
import Derived.Test.YtkgeeooijgcdkaaGreatDoorTie
import Derived.Test.YtkgeeooijgcdkaaGreatDoorRow
import Derived.SevenTiedAt
import Derived.Test.YtkgeeooijgcdkaaGreatDoorOpm
import Derived.Test.YtkgeeooijgcdkaaGreatDoorUA
namespace Go.Proofs.YtkgeeooijgcdkaaGreatDoor
open Go Go.ChangeShapes Go.WideShapes Go.ChangeAt Go.RowKit Go.Joins
open Go.ChangeMaps (open_string)
set_option linter.constructorNameAsVariable false

section
variable {H : Type} {enc : TypeId × Value → H}
set_option maxRecDepth 1000000 in
/-- An array of two bytes, opened. -/
theorem open_two8 {W : World} {base : Nat} {v : Value} {d : DataW H} {p : List MemPlace} (hv : Value.okWide Tryz.prog W .any base 26 v)
    (h : DataW.Trod enc Tryz.prog W 0 (fun _ => true) true 26 v d p) : ∃ k n : Int, v = .agg #[.int .u8 k, .int .u8 n] ∧ (0 ≤ k ∧ k ≤ 255) ∧ (0 ≤ n ∧ n ≤ 255) := by
  have hce : Tryz.prog.cellsOf 5 = 1 := by kernel_rfl
  have hca : Tryz.prog.cellsOf 26 = 2 := by kernel_rfl
  obtain ⟨cs, rfl, hsz, _⟩ : ∃ cs, v = .agg cs ∧ cs.size = Tryz.prog.cellsOf 26 ∧ Row.okWide Tryz.prog W .any base 26 cs := by simpa [Value.okWide, Tryz.underlying26] using hv
  obtain ⟨c0, c1, rfl⟩ := array2 (hsz.trans hca)
  obtain ⟨fuel, hf⟩ := h
  obtain ⟨xs, m, _, _, _, hl, hel⟩ := DataW.trod_array Tryz.underlying26 hf
  have g0 := hel 0 (by decide)
  have g1 := hel 1 (by decide)
  match xs, hl, g0, g1 with
  | [x0, x1], _, g0, g1 =>
    simp [Value.cells, hce] at g0 g1
    obtain ⟨k, e0, _, wk⟩ := DataW.trod_int Tryz.underlying5 g0
    obtain ⟨n, e1, _, wn⟩ := DataW.trod_int Tryz.underlying5 g1
    simp at e0 e1
    subst e0 e1
    exact ⟨k, n, rfl, bounds_u8 wk, bounds_u8 wn⟩
end

set_option maxRecDepth 1000000 in
/-- The start that the door's own run leaves meets the row's condition on the listed variables. -/
theorem topSkipperVotes_met (os : Os) (args : Array Value) : laidMetH Tryz.prog Rows.topSkipperVotesRow.laid ((World.doorLaid Tryz.prog 24 os).forCall (fun _ _ => 0) ⟨#[], args, []⟩).memory :=
  laidMetH_of_parts3 (fuel := 8) (laidMet_of_run' 8 (by kernel_rfl) (by kernel_rfl)) (by kernel_rfl) (by kernel_rfl)

set_option maxRecDepth 1000000 in
theorem topSkipperVotes_lifted (os : Os) (started : os.Started) (H : Type) (enc : TypeId × Value → H) :
    ReturnsInHanded {} Tryz.checked os 3 .any (fun w args => (Rows.topSkipperVotesSpec.pre enc Tryz.prog Tryz.f3 [] false w args ∧ laidMetH Tryz.prog Rows.topSkipperVotesRow.laid w) ∧ sizedMet enc Tryz.prog Tryz.f3 (OpenSpec.ofChange Rows.topSkipperVotesSpec) false w args)
      (Rows.topSkipperVotesSpec.post enc Tryz.prog Tryz.f3 false true false false) := by
  refine returnsInHanded_of_change_and (C := Tryz.checked) (X := fun w _ => laidMetH Tryz.prog Rows.topSkipperVotesRow.laid w) (fun _ _ _ hh h => h.of_heap hh) own started (by kernel_rfl) Tryz.func3
    (ChangeSpec.witness_shaped (enc := enc) (C := Tryz.checked) (os := os) (X := fun w _ => laidMetH Tryz.prog Rows.topSkipperVotesRow.laid w) false (World.doorLaid Tryz.prog 24 os) #[.agg #[.string ⟨#[]⟩, .int .i64 0, .slice none 0 0, .slice none 0 0], .agg #[.string ⟨#[]⟩, .int .i64 0, .slice none 0 0, .slice none 0 0], .agg #[.int .u8 0, .int .u8 0]] 8 rfl (World.shaped_of_RefB (by kernel_rfl) (by kernel_rfl)) (by kernel_rfl) (by kernel_rfl) (by kernel_rfl) (topSkipperVotes_met os _)) ?_
  intro W base args ds gs before hval0 hW _ hsz hL _
  have hval : ∀ (j : Nat) t v, Tryz.f3.params[j]? = some t → args[j]? = some v → Value.okWide Tryz.prog W .any base t v := hval0
  have hW' := hW
  obtain ⟨p, q, hA0, hV, rfl, hfz, hnd⟩ := hW
  have hA : DataW.TrodAll enc Tryz.prog W 0 (fun _ => true) true Tryz.f3.params.toList args.toList ds p := hA0
  rw [Tryz.params3] at hA hval
  obtain ⟨rfl, rfl⟩ := trodVars_none hV
  obtain ⟨v0, v1, v2, d0, d1, d2, p0, p1, p2, rfl, rfl, rfl, h0, h1, h2⟩ := trodAll_three hA
  obtain ⟨ca0, ca1, ca2, ca3, ya0, ya1, ya2, ya3, ma, rfl, rfl, rfl, hya0, hya1, hya2, hya3⟩ := open_agg4 Tryz.underlying25 (by kernel_rfl) (show Tryz.prog.cellsOf 25 = 4 by kernel_rfl) (hval 0 25 v0 rfl rfl) h0
  obtain ⟨nma, ka0, -, hsa⟩ := DataW.trod_string Tryz.underlying9 hya0
  obtain ⟨sta, ka1, -⟩ := DataW.trod_int Tryz.underlying3 hya1
  obtain ⟨bsa, hla, fla⟩ := open_levels hya2
  obtain ⟨gsa, hga, fga⟩ := open_gaps hya3
  obtain ⟨cb0, cb1, cb2, cb3, yb0, yb1, yb2, yb3, mb, rfl, rfl, rfl, hyb0, hyb1, hyb2, hyb3⟩ := open_agg4 Tryz.underlying25 (by kernel_rfl) (show Tryz.prog.cellsOf 25 = 4 by kernel_rfl) (hval 1 25 v1 rfl rfl) h1
  obtain ⟨nmb, kb0, -, hsb⟩ := DataW.trod_string Tryz.underlying9 hyb0
  obtain ⟨stb, kb1, -⟩ := DataW.trod_int Tryz.underlying3 hyb1
  obtain ⟨bsb, hlb, flb⟩ := open_levels hyb2
  obtain ⟨gsb, hgb, fgb⟩ := open_gaps hyb3
  obtain ⟨x0, x1, rfl, hx0, hx1⟩ := open_two8 (hval 2 26 v2 rfl rfl) h2
  simp at ka0 ka1 kb0 kb1
  subst ka0 ka1 kb0 kb1
  refine (sVotes_all nma nmb sta stb x0 x1 ca2 ca3 cb2 cb3 bsa bsb gsa gsb W hla hga hlb hgb fla fga flb fgb hsa hsb hx0 hx1).mono ?_
  rintro e W' ⟨rfl, hB⟩
  exact ⟨_, rfl, law_post rfl rfl rfl rfl rfl (fun t ht => by
    have hm : t ∈ [25, 25, 26] := by simpa [Tryz.params3] using ht
    have hall : ([25, 25, 26].all fun u => Tryz.prog.readableRec u && decide (u < Tryz.prog.types.size)) = true := by kernel_rfl
    simpa using List.all_eq_true.1 hall t hm) hW' hB⟩

set_option maxRecDepth 1000000 in
theorem topSkipperVotes_holds : Rows.TopSkipperVotesSaid :=
  OpenClaim.holds_of_wide 3 Tryz.f3 rfl rfl rfl rfl rfl rfl rfl ⟨rfl, rfl, rfl, rfl, rfl⟩ rfl rfl rfl rfl rfl (by kernel_rfl) Tryz.func3 (by kernel_rfl)
    (of_decide_eq_true (by kernel_rfl)) (by unfold Func.isWrapper; first | (rw [if_pos (by decide +kernel)]; kernel_rfl) | (rw [if_neg (by decide +kernel)]; exact ⟨rfl, rfl⟩))
    (fun os started H enc _ => topSkipperVotes_lifted os started H enc)

set_option maxRecDepth 1000000 in
theorem topSkipperVotes_card : Rows.TopSkipperVotesCardSaid :=
  Claim7.holds_tied_plain_at .later [] [.data, .data, .data] true (true, "c1312dd09490bb6502fa183b17c2d2ea7119a51a4a12e2b96d3cc88ed6c9c8c1") false
    topSkipperVotes_holds (fun _ h => by cases h) (by kernel_rfl) (fun _ h => by cases h) topSkipperVotes_row_tie rfl ⟨rfl, rfl⟩ (by kernel_rfl) rfl
    (fun f fn hf hfn => by
      obtain rfl : f = 3 := Option.some.inj ((show Tryz.prog.funcNamed "tideway/tidewaytop.TopSkipperVotes" = some 3 by kernel_rfl).symm.trans hf) |>.symm
      obtain rfl : fn = Tryz.f3 := (Option.some.inj (Tryz.func3.symm.trans hfn)).symm
      exact ⟨by kernel_rfl, fun j t ht => by
        rw [Tryz.params3] at ht
        have hm : t ∈ [25, 25, 26] := by simpa using Array.mem_of_getElem? ht
        have hall : ([25, 25, 26].all fun u => !Tryz.prog.wantsStandIn u) = true := by kernel_rfl
        exact (show Tryz.prog.wantsStandIn t = false by simpa using List.all_eq_true.1 hall t hm)⟩)
    (by kernel_rfl)
end Go.Proofs.YtkgeeooijgcdkaaGreatDoor
