/-
  TopSkipperRecords (J1): for every record, list of rules and cut, a record that is cleaned, by the same rules in any number of goes, and then cut in two, written as a text and as a stream, read and joined again, is the cleaned record; the statistics of both parts add up; and what it has less than the record has a reason. Conditions: the row's own (the listed library tables as the program's text lays them, tied by the card).
-/
import Derived.Test.YtkgkpcmokmhakaaGreatDoorRows
import Derived.Test.YtkgkpcmokmhakaaGreatDoorCards
import Derived.Test.YtkgkpcmokmhakaaGreatDoorTie
import Derived.Test.YtkgkpcmokmhakaaGreatDoorMB
import Derived.Test.YtkgkpcmokmhakaaGreatDoorOpm
import Derived.Test.YtkgkpcmokmhakaaGreatDoorJ6
import Derived.Test.YtkgkpcmokmhakaaGreatDoorSB
import Derived.SevenTiedAt
import Derived.HandedShaped
import Derived.Shelf.Vars
import Derived.LaidSub
import Derived.MakeChecks
import Derived.Lib.SmallJoins
import Derived.Lay
namespace Go.Proofs.YtkgkpcmokmhakaaGreatDoor
open Go.RowKit
attribute [local go_sem] Oper.semAt_some
set_option maxRecDepth 1000000 in
/-- The table of powers of ten, of the row's condition. -/
theorem tab_of_laidR {W : World} (h : laidMetH Tryz.prog Rows.topSkipperRecordsRow.laid W) : Lib.TabIs Tryz.prog W "internal/strconv.uint64pow10" .u64 Lib.pow10Tab := by
  have h1 := h.filter (fun x => x.1 == "internal/strconv.uint64pow10")
  rw [show (Rows.topSkipperRecordsRow.laid.filter (fun x => x.1 == "internal/strconv.uint64pow10")) = [("internal/strconv.uint64pow10", Lib.tabData .u64 Lib.pow10Tab)] by kernel_rfl] at h1
  rw [MakeChecks.laidMetH_plain _ _ _ (by kernel_rfl)] at h1
  exact Lib.tabIs_of_head (g := 1) (t := 209) (e := 179) (n := 20) (by kernel_rfl) (by kernel_rfl) Tryz.underlying209 Tryz.underlying179 (by kernel_rfl) (by kernel_rfl) h1
end Go.Proofs.YtkgkpcmokmhakaaGreatDoor

namespace Go.Proofs.YtkgkpcmokmhakaaGreatDoor
open Go Go.ChangeShapes Go.WideShapes Go.ChangeAt Go.RowKit Go.Joins
open Go.ChangeMaps (open_string)
set_option linter.constructorNameAsVariable false

set_option maxRecDepth 1000000 in
/-- The start that the door's own run leaves meets the row's condition on the listed variables. -/
theorem topSkipperRecords_met (os : Os) (args : Array Value) : laidMetH Tryz.prog Rows.topSkipperRecordsRow.laid ((World.laidAll Tryz.prog os Rows.topSkipperRecordsRow.laid).forCall (fun _ _ => 0) ⟨#[], args, []⟩).memory := by
  rw [MakeChecks.laidMetH_plain _ _ _ (by kernel_rfl)]
  exact laidMet_laidAll _ (by kernel_rfl) (by kernel_rfl)

set_option maxRecDepth 1000000 in
theorem rec_call {H : Type} {enc : TypeId × Value → H} (W : World) (base : Nat) (args : Array Value) (ds gs : List (DataW H)) (before : List MemPlace)
    (hval0 : ∀ (j : Nat) t v, Tryz.f3.params[j]? = some t → args[j]? = some v → Value.okWide Tryz.prog W .any base t v)
    (hW : DataW.Whole enc Tryz.prog Tryz.f3.params.toList Rows.topSkipperRecordsSpec.vars false W args.toList ds gs before) (hL : laidMetH Tryz.prog Rows.topSkipperRecordsRow.laid W) (hsh : W.ShapedOpen Tryz.prog) :
    Calls Tryz.prog 3 args W fun e W' => ∃ v, e = .returned v ∧ Rows.topSkipperRecordsSpec.post enc Tryz.prog Tryz.f3 false true false false W args v W' := by
  have hval : ∀ (j : Nat) t v, Tryz.f3.params[j]? = some t → args[j]? = some v → Value.okWide Tryz.prog W .any base t v := hval0
  have hW' := hW
  obtain ⟨p, q, hA0, hV, rfl, hfz, hnd⟩ := hW
  have hA : DataW.TrodAll enc Tryz.prog W 0 (fun _ => true) true Tryz.f3.params.toList args.toList ds p := hA0
  rw [Tryz.params3] at hA hval
  obtain ⟨rfl, rfl⟩ := trodVars_none hV
  obtain ⟨v0, v1, v2, d0, d1, d2, p0, p1, p2, rfl, rfl, rfl, h0, h1, h2⟩ := trodAll_three hA
  obtain ⟨c0, c1, c2, c3, y0, y1, y2, y3, m, rfl, rfl, rfl, hy0, hy1, hy2, hy3⟩ := open_agg4 Tryz.underlying25 (by kernel_rfl) (show Tryz.prog.cellsOf 25 = 4 by kernel_rfl) (hval 0 25 v0 rfl rfl) h0
  obtain ⟨nm, k0, -, hs⟩ := DataW.trod_string Tryz.underlying9 hy0
  obtain ⟨st, k1, -⟩ := DataW.trod_int Tryz.underlying3 hy1
  obtain ⟨bs, hl, fl, h32⟩ := open_levels32 hy2
  obtain ⟨gs, hg, fg⟩ := open_gaps hy3
  obtain ⟨A5, n5, c5, rfl⟩ := okWide_slice Tryz.underlying26 (hval 1 26 v1 rfl rfl)
  obtain ⟨fuel, hf⟩ := h1
  rw [show (Value.slice A5 n5 c5).cells.toList = [Value.slice A5 n5 c5] by simp [Value.cells]] at hf
  obtain ⟨l, hr⟩ := open_rules hf
  obtain ⟨x0, rfl, rfl, rfl, hx0⟩ := open_int Tryz.underlying5 (hval 2 5 v2 rfl rfl) h2
  simp at k0 k1
  subst k0 k1
  obtain ⟨mx, hmx⟩ := cell_of_shapedOpen_int (P := Tryz.prog) (g := 2) (t := 3) (zero := #[.int .i64 0]) hsh (of_decide_eq_true (by kernel_rfl)) (by kernel_rfl) rfl (by kernel_rfl) (by kernel_rfl) Tryz.underlying3
  refine (rec_all nm st x0 c2 c3 _ bs gs l W hl hg hr fl fg hs h32 (bounds_u8 hx0) mx hmx (tab_of_laidR hL)).mono ?_
  rintro e W' ⟨rfl, hB⟩
  exact ⟨_, rfl, law_post rfl rfl rfl rfl rfl (fun t ht => by
    have hm : t ∈ [25, 26, 5] := by simpa [Tryz.params3] using ht
    have hall : ([25, 26, 5].all fun u => Tryz.prog.readableRec u && decide (u < Tryz.prog.types.size)) = true := by kernel_rfl
    simpa using List.all_eq_true.1 hall t hm) hW' hB⟩


set_option maxRecDepth 1000000 in
theorem topSkipperRecords_lifted (os : Os) (started : os.Started) (H : Type) (enc : TypeId × Value → H) :
    ReturnsInHanded {} Tryz.checked os 3 .any (fun w args => (Rows.topSkipperRecordsSpec.pre enc Tryz.prog Tryz.f3 [] false w args ∧ laidMetH Tryz.prog Rows.topSkipperRecordsRow.laid w) ∧ sizedMet enc Tryz.prog Tryz.f3 (OpenSpec.ofChange Rows.topSkipperRecordsSpec) false w args)
      (Rows.topSkipperRecordsSpec.post enc Tryz.prog Tryz.f3 false true false false) := by
  refine returnsInHanded_of_calls own started (by kernel_rfl) (ChangeSpec.witness_shaped (enc := enc) (C := Tryz.checked) (os := os) (X := fun w _ => laidMetH Tryz.prog Rows.topSkipperRecordsRow.laid w) false (World.laidAll Tryz.prog os Rows.topSkipperRecordsRow.laid) #[.agg #[.string ⟨#[]⟩, .int .i64 0, .slice none 0 0, .slice none 0 0], .slice none 0 0, .int .u8 0] 8 (World.laidAll_os _ _ _) (World.shaped_of_ZipB (by kernel_rfl) (by kernel_rfl)) (by kernel_rfl) (by kernel_rfl) (by kernel_rfl) (topSkipperRecords_met os _)) ?_
  intro w tape i _ hsh0 _ hok hpre _
  obtain ⟨_, _, _, fn', hfn', _, _, _, _, hval1⟩ := hok
  have efn : fn' = Tryz.f3 := Option.some.inj (hfn'.symm.trans Tryz.func3)
  subst efn
  obtain ⟨⟨⟨ds, gs, before, hW0, -⟩, hL0⟩, -⟩ := hpre
  have hW1 := DataW.Whole.of_heap (w' := w.forCall tape i) (by rfl) hW0
  have hL1 : laidMetH Tryz.prog Rows.topSkipperRecordsRow.laid (w.forCall tape i) := hL0.of_heap (by rfl)
  refine (rec_call (w.forCall tape i) w.heap.size i.args ds gs before hval1 hW1 hL1 hsh0).mono fun e W' ⟨v, he, hp⟩ => ?_
  subst he
  exact ChangeSpec.post_blind hp

set_option maxRecDepth 1000000 in
theorem topSkipperRecords_holds : Rows.TopSkipperRecordsSaid :=
  OpenClaim.holds_of_wide 3 Tryz.f3 rfl rfl rfl rfl rfl rfl rfl ⟨rfl, rfl, rfl, rfl, rfl⟩ rfl rfl rfl rfl rfl (by kernel_rfl) Tryz.func3 (by kernel_rfl)
    (of_decide_eq_true (by kernel_rfl)) (by unfold Func.isWrapper; first | (rw [if_pos (by decide +kernel)]; kernel_rfl) | (rw [if_neg (by decide +kernel)]; exact ⟨rfl, rfl⟩))
    (fun os started H enc _ => topSkipperRecords_lifted os started H enc)

set_option maxRecDepth 1000000 in
theorem topSkipperRecords_card : Rows.TopSkipperRecordsCardSaid :=
  Claim7.holds_tied_plain_at .later [] [.data, .data, .data, .data, .pinned] true (true, "f17fa68cce89f1a2c36f50d5acfccaad0e2e3fbe54cea8b8fd84eaa2b2fffa1b") false
    topSkipperRecords_holds (fun _ h => by cases h) (by kernel_rfl) (fun _ h => by cases h) topSkipperRecords_row_tie rfl ⟨rfl, rfl⟩ (by kernel_rfl) rfl
    (fun f fn hf hfn => by
      obtain rfl : f = 3 := Option.some.inj ((show Tryz.prog.funcNamed "tideway/tidewaytop.TopSkipperRecords" = some 3 by kernel_rfl).symm.trans hf) |>.symm
      obtain rfl : fn = Tryz.f3 := (Option.some.inj (Tryz.func3.symm.trans hfn)).symm
      exact ⟨by kernel_rfl, fun j t ht => by
        rw [Tryz.params3] at ht
        have hm : t ∈ [25, 26, 5] := by simpa using Array.mem_of_getElem? ht
        have hall : ([25, 26, 5].all fun u => !Tryz.prog.wantsStandIn u) = true := by kernel_rfl
        exact (show Tryz.prog.wantsStandIn t = false by simpa using List.all_eq_true.1 hall t hm)⟩)
    (by kernel_rfl)
end Go.Proofs.YtkgkpcmokmhakaaGreatDoor
