/-
  GaugeBasics (P1.1): for every string, pair of integers and ratio, IsName, Draw and CheckRatio answer as the document says. Conditions: the row's own (the listed library tables as the program's text lays them, tied by the card).
-/
import Derived.Test.YtjkammgabljmaaaGreatDoorRows
import Derived.Test.YtjkammgabljmaaaGreatDoorCards
import Derived.Test.YtjkammgabljmaaaGreatDoorTie
import Derived.Test.YtjkammgabljmaaaGreatDoorRow
import Derived.SevenTiedAt
import Derived.Test.YtjkammgabljmaaaGreatDoorG1
import Derived.Test.YtjkammgabljmaaaGreatDoorM3
namespace Go.Proofs.YtjkammgabljmaaaGreatDoor
open Go Go.ChangeShapes Go.WideShapes Go.ChangeAt Go.RowKit Go.Joins
open Go.ChangeMaps (open_string)

set_option linter.constructorNameAsVariable false
section
variable {H : Type} {enc : TypeId × Value → H}
set_option maxRecDepth 1000000 in
/-- An array of two integers, opened. -/
theorem open_two {W : World} {base : Nat} {v : Value} {d : DataW H} {p : List MemPlace} (hv : Value.okWide Tryz.prog W .any base 22 v)
    (h : DataW.Trod enc Tryz.prog W 0 (fun _ => true) true 22 v d p) : ∃ k n : Int, v = .agg #[.int .i64 k, .int .i64 n] ∧ in64 k ∧ in64 n := by
  have hce : Tryz.prog.cellsOf 3 = 1 := by kernel_rfl
  have hca : Tryz.prog.cellsOf 22 = 2 := by kernel_rfl
  obtain ⟨cs, rfl, hsz, _⟩ : ∃ cs, v = .agg cs ∧ cs.size = Tryz.prog.cellsOf 22 ∧ Row.okWide Tryz.prog W .any base 22 cs := by simpa [Value.okWide, Tryz.underlying22] using hv
  obtain ⟨c0, c1, rfl⟩ := array2 (hsz.trans hca)
  obtain ⟨fuel, hf⟩ := h
  obtain ⟨xs, m, _, _, _, hl, hel⟩ := DataW.trod_array Tryz.underlying22 hf
  have g0 := hel 0 (by decide)
  have g1 := hel 1 (by decide)
  match xs, hl, g0, g1 with
  | [x0, x1], _, g0, g1 =>
    simp [Value.cells, hce] at g0 g1
    obtain ⟨k, e0, _, wk⟩ := DataW.trod_int Tryz.underlying3 g0
    obtain ⟨n, e1, _, wn⟩ := DataW.trod_int Tryz.underlying3 g1
    simp at e0 e1
    subst e0 e1
    have hk := bounds_i64 wk
    have hn := bounds_i64 wn
    exact ⟨k, n, rfl, ⟨hk.1, hk.2⟩, ⟨hn.1, hn.2⟩⟩
end

theorem basics_any (HA : Hid Awake) (s : ByteArray) (k n a b : Int) (w : World) (hs : s.size ≤ maxLen) (ha : in64 a) (hb : in64 b) :
    Calls Tryz.prog 3 #[.string s, .agg #[.int .i64 k, .int .i64 n], .agg #[.int .i64 a, .int .i64 b]] w fun e w' => e = .returned (.bool true) ∧ Below w.heap.size w w' := by
  by_cases hl : 60 < s.size
  · exact basics_long HA s k n a b w hs hl
  · by_cases hk : 1 ≤ k ∧ k ≤ 2147483646
    · by_cases hn : 0 ≤ n ∧ n ≤ 256
      · obtain ⟨m, rfl⟩ : ∃ m : Nat, n = m := ⟨n.toNat, by omega⟩
        exact basics_ok HA s k m a b w hs hl hk (by omega) ha hb
      · refine basics_bad HA s k n a b _ w hs hl rfl ?_ ha hb
        simp [fst0, rng, hk, hn]
    · refine basics_bad HA s k n a b _ w hs hl rfl ?_ ha hb
      simp [fst0, rng, hk]

set_option maxRecDepth 1000000 in
/-- The start that the door's own run leaves meets the row's condition on the listed variables. -/
theorem gaugeBasics_met (os : Os) (args : Array Value) : laidMetH Tryz.prog Rows.gaugeBasicsRow.laid ((World.doorLaid Tryz.prog 24 os).forCall (fun _ _ => 0) ⟨#[], args, []⟩).memory :=
  laidMetH_of_parts3 (fuel := 8) (laidMet_of_run' 8 (by kernel_rfl) (by kernel_rfl)) (by kernel_rfl) (by kernel_rfl)

set_option maxRecDepth 1000000 in
theorem gaugeBasics_lifted (os : Os) (started : os.Started) (H : Type) (enc : TypeId × Value → H) :
    ReturnsInHanded {} Tryz.checked os 3 .any (fun w args => (Rows.gaugeBasicsSpec.pre enc Tryz.prog Tryz.f3 [] false w args ∧ laidMetH Tryz.prog Rows.gaugeBasicsRow.laid w) ∧ sizedMet enc Tryz.prog Tryz.f3 (OpenSpec.ofChange Rows.gaugeBasicsSpec) false w args)
      (Rows.gaugeBasicsSpec.post enc Tryz.prog Tryz.f3 false true false false) := by
  refine returnsInHanded_of_change_and (C := Tryz.checked) (X := fun w _ => laidMetH Tryz.prog Rows.gaugeBasicsRow.laid w) (fun _ _ _ hh h => h.of_heap hh) own started (by kernel_rfl) Tryz.func3
    (ChangeSpec.witness_shaped (enc := enc) (C := Tryz.checked) (os := os) (X := fun w _ => laidMetH Tryz.prog Rows.gaugeBasicsRow.laid w) false (World.doorLaid Tryz.prog 24 os) #[.string ⟨#[]⟩, .agg #[.int .i64 0, .int .i64 0], .agg #[.int .i64 0, .int .i64 0]] 8 rfl (World.shaped_of_RefB (by kernel_rfl) (by kernel_rfl)) (by kernel_rfl) (by kernel_rfl) (by kernel_rfl) (gaugeBasics_met os _)) ?_
  intro W base args ds gs before hval0 hW _ hsz hL _
  have hval : ∀ (j : Nat) t v, Tryz.f3.params[j]? = some t → args[j]? = some v → Value.okWide Tryz.prog W .any base t v := hval0
  have hW' := hW
  obtain ⟨p, q, hA0, hV, rfl, hfz, hnd⟩ := hW
  have hA : DataW.TrodAll enc Tryz.prog W 0 (fun _ => true) true Tryz.f3.params.toList args.toList ds p := hA0
  rw [Tryz.params3] at hA hval
  obtain ⟨rfl, rfl⟩ := trodVars_none hV
  obtain ⟨v0, v1, v2, d0, d1, d2, p0, p1, p2, rfl, rfl, rfl, h0, h1, h2⟩ := trodAll_three hA
  obtain ⟨s, rfl, rfl, rfl, hs⟩ := open_string Tryz.underlying9 (hval 0 9 v0 rfl rfl) h0
  obtain ⟨k, n, rfl, hk, hn⟩ := open_two (hval 1 22 v1 rfl rfl) h1
  obtain ⟨c0, c1, y0, y1, m, rfl, rfl, rfl, hy0, hy1⟩ := open_agg2 Tryz.underlying24 (by kernel_rfl) (show Tryz.prog.cellsOf 24 = 2 by kernel_rfl) (hval 2 24 v2 rfl rfl) h2
  obtain ⟨a, e0, hz0, wa⟩ := DataW.trod_int Tryz.underlying3 hy0
  obtain ⟨b, e1, hz1, wb⟩ := DataW.trod_int Tryz.underlying3 hy1
  simp at e0 e1
  subst e0 e1
  have ha := bounds_i64 wa
  have hb := bounds_i64 wb
  refine (basics_any (hd awake_any) s k n a b W hs ⟨ha.1, ha.2⟩ ⟨hb.1, hb.2⟩).mono ?_
  rintro e W' ⟨rfl, hB⟩
  exact ⟨_, rfl, law_post rfl rfl rfl rfl rfl (fun t ht => by
    have hm : t ∈ [9, 22, 24] := by simpa [Tryz.params3] using ht
    have hall : ([9, 22, 24].all fun u => Tryz.prog.readableRec u && decide (u < Tryz.prog.types.size)) = true := by kernel_rfl
    simpa using List.all_eq_true.1 hall t hm) hW' hB⟩

set_option maxRecDepth 1000000 in
theorem gaugeBasics_holds : Rows.GaugeBasicsSaid :=
  OpenClaim.holds_of_wide 3 Tryz.f3 rfl rfl rfl rfl rfl rfl rfl ⟨rfl, rfl, rfl, rfl, rfl⟩ rfl rfl rfl rfl rfl (by kernel_rfl) Tryz.func3 (by kernel_rfl)
    (of_decide_eq_true (by kernel_rfl)) (by unfold Func.isWrapper; first | (rw [if_pos (by decide +kernel)]; kernel_rfl) | (rw [if_neg (by decide +kernel)]; exact ⟨rfl, rfl⟩))
    (fun os started H enc _ => gaugeBasics_lifted os started H enc)

set_option maxRecDepth 1000000 in
theorem gaugeBasics_card : Rows.GaugeBasicsCardSaid :=
  Claim7.holds_tied_plain_at .later [] [.data, .data, .data] true (true, "2e3921f386857b155f6cb2f48e6c04fe929b638c300c76340dfb31072cea16fd") false
    gaugeBasics_holds (fun _ h => by cases h) (by kernel_rfl) (fun _ h => by cases h) gaugeBasics_row_tie rfl ⟨rfl, rfl⟩ (by kernel_rfl) rfl
    (fun f fn hf hfn => by
      obtain rfl : f = 3 := Option.some.inj ((show Tryz.prog.funcNamed "tideway/tidewaylaw01.GaugeBasics" = some 3 by kernel_rfl).symm.trans hf) |>.symm
      obtain rfl : fn = Tryz.f3 := (Option.some.inj (Tryz.func3.symm.trans hfn)).symm
      exact ⟨by kernel_rfl, fun j t ht => by
        rw [Tryz.params3] at ht
        have hm : t ∈ [9, 22, 24] := by simpa using Array.mem_of_getElem? ht
        have hall : ([9, 22, 24].all fun u => !Tryz.prog.wantsStandIn u) = true := by kernel_rfl
        exact (show Tryz.prog.wantsStandIn t = false by simpa using List.all_eq_true.1 hall t hm)⟩)
    (by kernel_rfl)
end Go.Proofs.YtjkammgabljmaaaGreatDoor
