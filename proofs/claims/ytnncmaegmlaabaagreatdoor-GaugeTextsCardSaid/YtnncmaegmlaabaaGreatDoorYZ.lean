/-
  GaugeTexts (P1.5): for every record and text, Print and Parse answer as the document says, or the first error. Conditions: the row's own (the listed library tables as the program's text lays them, tied by the card).
-/
import Derived.Test.YtnncmaegmlaabaaGreatDoorRows
import Derived.Test.YtnncmaegmlaabaaGreatDoorCards
import Derived.Test.YtnncmaegmlaabaaGreatDoorTie
import Derived.Test.YtnncmaegmlaabaaGreatDoorOpm
import Derived.SevenTiedAt
import Derived.HandedShaped
import Derived.Shelf.Vars
import Derived.LaidSub
import Derived.MakeChecks
import Derived.Lib.SmallJoins
import Derived.Lay
import Derived.Test.YtnncmaegmlaabaaGreatDoorYS
import Derived.Test.YtnncmaegmlaabaaGreatDoorYM
import Derived.Test.YtnncmaegmlaabaaGreatDoorYP
import Derived.Test.YtnncmaegmlaabaaGreatDoorYL
import Derived.Test.YtnncmaegmlaabaaGreatDoorM3
import Derived.Test.YtnncmaegmlaabaaGreatDoorQ4
import Derived.Test.YtnncmaegmlaabaaGreatDoorQ5
namespace Go.Proofs.YtnncmaegmlaabaaGreatDoor
open Go.RowKit
attribute [local go_sem] Oper.semAt_some

set_option maxRecDepth 1000000 in
set_option maxHeartbeats 4000000 in
theorem texts_long1 (HA : Hid Awake) (nm : ByteArray) (st : Int) (A A2 : Option Addr) (c c2 : Nat) (bs : List Nat) (gs : List (Int × Int)) (s : ByteArray) (w : World) (S1 : Hid (shortR nm.size bs.length gs.length = false)) :
    Calls Tryz.prog 3 #[.agg #[.string nm, .int .i64 st, .slice A bs.length c, .slice A2 gs.length c2], .string s] w fun e w' => e = .returned (.bool true) ∧ Below w.heap.size w w' := by
  have HQ := hd (blk_new w #[.string nm, .int .i64 st, .slice A bs.length c, .slice A2 gs.length c2] 25)
  have HB := hd ((Below.refl w.heap.size w).alloc (Nat.le_refl _) (Obj.cells #[.string nm, .int .i64 st, .slice A bs.length c, .slice A2 gs.length c2] 25))
  go_enter Tryz.func3, Tryz.ntmps3
  go_wp2_with fail
  refine (HA.out _).mono ?_
  rintro e w1 ⟨rfl, hb⟩
  replace HQ := hd ((hb.block _ (blk_lt HQ.out)).trans HQ.out)
  replace HB := hd (HB.out.trans (hb.mono (HB.out.size)))
  clear hb
  have k0 := blk_cell HQ.out 0
  have k1 := blk_cell HQ.out 1
  have k2 := blk_cell HQ.out 2
  have k3 := blk_cell HQ.out 3
  simp at k0 k1 k2 k3
  go_wp2_with fail
  refine (short_any nm st A A2 bs.length c gs.length c2 _).mono ?_
  rw [S1.out]
  rintro e w2 ⟨rfl, hb⟩
  replace HB := hd (HB.out.trans (hb.mono (HB.out.size)))
  clear hb k0 k1 k2 k3
  go_wp2_with fail
  refine (HA.out _).mono ?_
  rintro e w4 ⟨rfl, hb⟩
  replace HB := hd (HB.out.trans (hb.mono (HB.out.size)))
  clear hb
  go_wp2_with fail
  go_returns
  exact ⟨rfl, HB.out⟩

set_option maxRecDepth 1000000 in
set_option maxHeartbeats 4000000 in
theorem texts_long2 (HA : Hid Awake) (nm : ByteArray) (st : Int) (A A2 : Option Addr) (c c2 : Nat) (bs : List Nat) (gs : List (Int × Int)) (s : ByteArray) (w : World) (S1 : Hid (shortR nm.size bs.length gs.length = true)) (hn : 300 < s.size) :
    Calls Tryz.prog 3 #[.agg #[.string nm, .int .i64 st, .slice A bs.length c, .slice A2 gs.length c2], .string s] w fun e w' => e = .returned (.bool true) ∧ Below w.heap.size w w' := by
  have HQ := hd (blk_new w #[.string nm, .int .i64 st, .slice A bs.length c, .slice A2 gs.length c2] 25)
  have HB := hd ((Below.refl w.heap.size w).alloc (Nat.le_refl _) (Obj.cells #[.string nm, .int .i64 st, .slice A bs.length c, .slice A2 gs.length c2] 25))
  have hlen : (300 : Int) < (s.size : Int) := by omega
  clear hn
  go_enter Tryz.func3, Tryz.ntmps3
  go_wp2_with fail
  refine (HA.out _).mono ?_
  rintro e w1 ⟨rfl, hb⟩
  replace HQ := hd ((hb.block _ (blk_lt HQ.out)).trans HQ.out)
  replace HB := hd (HB.out.trans (hb.mono (HB.out.size)))
  clear hb
  have k0 := blk_cell HQ.out 0
  have k1 := blk_cell HQ.out 1
  have k2 := blk_cell HQ.out 2
  have k3 := blk_cell HQ.out 3
  simp at k0 k1 k2 k3
  go_wp2_with fail
  refine (short_any nm st A A2 bs.length c gs.length c2 _).mono ?_
  rw [S1.out]
  rintro e w2 ⟨rfl, hb⟩
  replace HB := hd (HB.out.trans (hb.mono (HB.out.size)))
  clear hb k0 k1 k2 k3
  go_wp2_with fail
  refine (HA.out _).mono ?_
  rintro e w4 ⟨rfl, hb⟩
  replace HB := hd (HB.out.trans (hb.mono (HB.out.size)))
  clear hb
  go_wp2_with fail
  go_returns
  exact ⟨rfl, HB.out⟩

theorem shortT_len {s n m : Nat} (h : shortR s n m = true) : s ≤ 60 ∧ n ≤ 4097 ∧ m ≤ 2049 := by
  unfold shortR at h
  simp only [Bool.and_eq_true, Bool.or_eq_true, decide_eq_true_eq] at h
  omega
theorem texts_all (HA : Hid Awake) (nm : ByteArray) (st : Int) (v2 v3 : Value) (bs : List Nat) (gs : List (Int × Int)) (s : ByteArray) (w : World) (hl : Rd w w.heap.size v2 bs.length (flc bs)) (hg : Rd w w.heap.size v3 gs.length (spc gs)) (fl : Full v2) (fg : Full v3) (hs : nm.size ≤ maxLen)
    (m : Int) (hm : w.cell? ⟨2, 0, none⟩ = some (.int .i64 m)) (ht : Lib.TabIs Tryz.prog w "internal/strconv.uint64pow10" .u64 Lib.pow10Tab) :
    Calls Tryz.prog 3 #[.agg #[.string nm, .int .i64 st, v2, v3], .string s] w fun e w' => e = .returned (.bool true) ∧ Below w.heap.size w w' := by
  obtain ⟨A, c, rfl, -⟩ := id hl
  obtain ⟨A2, c2, rfl, -⟩ := id hg
  cases h1 : shortR nm.size bs.length gs.length
  · exact texts_long1 HA nm st A A2 c c2 bs gs s w (hd h1)
  · by_cases h5 : 300 < s.size
    · exact texts_long2 HA nm st A A2 c c2 bs gs s w (hd h1) h5
    · have h5' : s.size ≤ 300 := by omega
      have hN := shortT_len h1
      have hM : ∀ W, Below w.heap.size w W → W.cell? ⟨2, 0, none⟩ = some (.int .i64 m) := fun W hW => (hW.cell (p := ⟨2, 0, none⟩) (World.block_lt_of_cell? _ _ hm)).trans hm
      have hT : ∀ W, Below w.heap.size w W → Lib.TabIs Tryz.prog W "internal/strconv.uint64pow10" .u64 Lib.pow10Tab := fun W hW => Joins.tab_stays (g := 1) (by kernel_rfl) ht hW (Nat.le_refl _)
      have GD := hd (fun (W : World) (hW : Below w.heap.size w W) => gParse_any s m W (by omega) (hM W hW))
      have RD := hd (fun (W : World) => refParse_any s W h5')
      have CR := fun (W : World) (lv gv : Value) (_ : Below w.heap.size w W) (k1 : Rd W W.heap.size lv bs.length (flc bs)) (k2 : Rd W W.heap.size gv gs.length (spc gs)) => refRec_any nm st lv gv bs gs W k1 k2 hs
      by_cases hE : chkRec nm st bs gs = 0
      · obtain ⟨V, -, hlev⟩ := valid_of hE hs
        have hst := V.start
        have hnm : nm.size ≤ 1000 := by omega
        have GE := fun (W : World) (lv gv : Value) (hW : Below w.heap.size w W) (k1 : Rd W W.heap.size lv bs.length (flc bs)) (k2 : Rd W W.heap.size gv gs.length (spc gs)) => gPrint_any nm st lv gv bs gs W k1 k2 V (fun X hX => hT X (hW.trans (hX.mono hW.size)))
        have RE := fun (W : World) (lv gv : Value) (_ : Below w.heap.size w W) (k1 : Rd W W.heap.size lv bs.length (flc bs)) (k2 : Rd W W.heap.size gv gs.length (spc gs)) => refPrint_any nm st lv gv bs gs W k1 k2 ⟨by omega, by omega⟩ hlev (by omega) hnm
        rw [hE] at CR
        exact texts_ok HA nm st A A2 c c2 bs gs s (txB nm st bs gs bs.length) w (hd hl) (hd hg) (hd fl) (hd fg) (hd h1) (hd ⟨by omega, by omega⟩) h5' (hd CR) (hd GE) (hd RE) GD RD
      · have GE := fun (W : World) (lv gv : Value) (_ : Below w.heap.size w W) (k1 : Rd W W.heap.size lv bs.length (flc bs)) (k2 : Rd W W.heap.size gv gs.length (spc gs)) => show Calls Tryz.prog 8 #[.agg #[.string nm, .int .i64 st, lv, gv]] W (fun e w' => e = .returned (.tuple #[.string ⟨#[]⟩, .int .i64 (chkRec nm st bs gs)]) ∧ Below W.heap.size W w') from by
          obtain ⟨A', c', rfl, -⟩ := id k1
          obtain ⟨A2', c2', rfl, -⟩ := id k2
          exact print_bad nm st A' A2' c' c2' bs gs (chkRec nm st bs gs) W (hd k1) (hd k2) hs rfl (by simpa using hE)
        exact texts_bad HA nm st A A2 c c2 bs gs s (chkRec nm st bs gs) w (hd hl) (hd hg) (hd fl) (hd fg) (hd h1) (hd ⟨by omega, by omega⟩) h5' (by simpa using hE) (hd CR) (hd GE) GD RD
set_option maxRecDepth 1000000 in
/-- The table of powers of ten, of the row's condition. -/
theorem tab_of_laid {W : World} (h : laidMetH Tryz.prog Rows.gaugeTextsRow.laid W) : Lib.TabIs Tryz.prog W "internal/strconv.uint64pow10" .u64 Lib.pow10Tab := by
  have h1 := h.filter (fun x => x.1 == "internal/strconv.uint64pow10")
  rw [show (Rows.gaugeTextsRow.laid.filter (fun x => x.1 == "internal/strconv.uint64pow10")) = [("internal/strconv.uint64pow10", Lib.tabData .u64 Lib.pow10Tab)] by kernel_rfl] at h1
  rw [MakeChecks.laidMetH_plain _ _ _ (by kernel_rfl)] at h1
  exact Lib.tabIs_of_head (g := 1) (t := 234) (e := 206) (n := 20) (by kernel_rfl) (by kernel_rfl) Tryz.underlying234 Tryz.underlying206 (by kernel_rfl) (by kernel_rfl) h1
end Go.Proofs.YtnncmaegmlaabaaGreatDoor

namespace Go.Proofs.YtnncmaegmlaabaaGreatDoor
open Go Go.ChangeShapes Go.WideShapes Go.ChangeAt Go.RowKit Go.Joins
open Go.ChangeMaps (open_string)
set_option linter.constructorNameAsVariable false

set_option maxRecDepth 1000000 in
/-- The start that the door's own run leaves meets the row's condition on the listed variables. -/
theorem gaugeTexts_met (os : Os) (args : Array Value) : laidMetH Tryz.prog Rows.gaugeTextsRow.laid ((World.laidAll Tryz.prog os Rows.gaugeTextsRow.laid).forCall (fun _ _ => 0) ⟨#[], args, []⟩).memory := by
  rw [MakeChecks.laidMetH_plain _ _ _ (by kernel_rfl)]
  exact laidMet_laidAll _ (by kernel_rfl) (by kernel_rfl)

set_option maxRecDepth 1000000 in
theorem texts_call {H : Type} {enc : TypeId × Value → H} (W : World) (base : Nat) (args : Array Value) (ds gs : List (DataW H)) (before : List MemPlace)
    (hval0 : ∀ (j : Nat) t v, Tryz.f3.params[j]? = some t → args[j]? = some v → Value.okWide Tryz.prog W .any base t v)
    (hW : DataW.Whole enc Tryz.prog Tryz.f3.params.toList Rows.gaugeTextsSpec.vars false W args.toList ds gs before) (hL : laidMetH Tryz.prog Rows.gaugeTextsRow.laid W) (hsh : W.ShapedOpen Tryz.prog) :
    Calls Tryz.prog 3 args W fun e W' => ∃ v, e = .returned v ∧ Rows.gaugeTextsSpec.post enc Tryz.prog Tryz.f3 false true false false W args v W' := by
  have hval : ∀ (j : Nat) t v, Tryz.f3.params[j]? = some t → args[j]? = some v → Value.okWide Tryz.prog W .any base t v := hval0
  have hW' := hW
  obtain ⟨p, q, hA0, hV, rfl, hfz, hnd⟩ := hW
  have hA : DataW.TrodAll enc Tryz.prog W 0 (fun _ => true) true Tryz.f3.params.toList args.toList ds p := hA0
  rw [Tryz.params3] at hA hval
  obtain ⟨rfl, rfl⟩ := trodVars_none hV
  obtain ⟨v0, v1, d0, d1, p0, p1, rfl, rfl, rfl, h0, h1⟩ := trodAll_two hA
  obtain ⟨c0, c1, c2, c3, y0, y1, y2, y3, m, rfl, rfl, rfl, hy0, hy1, hy2, hy3⟩ := open_agg4 Tryz.underlying25 (by kernel_rfl) (show Tryz.prog.cellsOf 25 = 4 by kernel_rfl) (hval 0 25 v0 rfl rfl) h0
  obtain ⟨nm, k0, -, hs⟩ := DataW.trod_string Tryz.underlying9 hy0
  obtain ⟨st, k1, -⟩ := DataW.trod_int Tryz.underlying3 hy1
  obtain ⟨bs, hl, fl⟩ := open_levels hy2
  obtain ⟨gs, hg, fg⟩ := open_gaps hy3
  obtain ⟨sb, rfl, rfl, rfl, -⟩ := open_string Tryz.underlying9 (hval 1 9 v1 rfl rfl) h1
  simp at k0 k1
  subst k0 k1
  obtain ⟨mx, hmx⟩ := cell_of_shapedOpen_int (P := Tryz.prog) (g := 2) (t := 3) (zero := #[.int .i64 0]) hsh (of_decide_eq_true (by kernel_rfl)) (by kernel_rfl) rfl (by kernel_rfl) (by kernel_rfl) Tryz.underlying3
  refine (texts_all (hd awake_any) nm st c2 c3 bs gs sb W hl hg fl fg hs mx hmx (tab_of_laid hL)).mono ?_
  rintro e W' ⟨rfl, hB⟩
  exact ⟨_, rfl, law_post rfl rfl rfl rfl rfl (fun t ht => by
    have hm : t ∈ [25, 9] := by simpa [Tryz.params3] using ht
    have hall : ([25, 9].all fun u => Tryz.prog.readableRec u && decide (u < Tryz.prog.types.size)) = true := by kernel_rfl
    simpa using List.all_eq_true.1 hall t hm) hW' hB⟩


set_option maxRecDepth 1000000 in
theorem gaugeTexts_lifted (os : Os) (started : os.Started) (H : Type) (enc : TypeId × Value → H) :
    ReturnsInHanded {} Tryz.checked os 3 .any (fun w args => (Rows.gaugeTextsSpec.pre enc Tryz.prog Tryz.f3 [] false w args ∧ laidMetH Tryz.prog Rows.gaugeTextsRow.laid w) ∧ sizedMet enc Tryz.prog Tryz.f3 (OpenSpec.ofChange Rows.gaugeTextsSpec) false w args)
      (Rows.gaugeTextsSpec.post enc Tryz.prog Tryz.f3 false true false false) := by
  refine returnsInHanded_of_calls own started (by kernel_rfl) (ChangeSpec.witness_shaped (enc := enc) (C := Tryz.checked) (os := os) (X := fun w _ => laidMetH Tryz.prog Rows.gaugeTextsRow.laid w) false (World.laidAll Tryz.prog os Rows.gaugeTextsRow.laid) #[.agg #[.string ⟨#[]⟩, .int .i64 0, .slice none 0 0, .slice none 0 0], .string ⟨#[]⟩] 8 (World.laidAll_os _ _ _) (World.shaped_of_ZipB (by kernel_rfl) (by kernel_rfl)) (by kernel_rfl) (by kernel_rfl) (by kernel_rfl) (gaugeTexts_met os _)) ?_
  intro w tape i _ hsh0 _ hok hpre _
  obtain ⟨_, _, _, fn', hfn', _, _, _, _, hval1⟩ := hok
  have efn : fn' = Tryz.f3 := Option.some.inj (hfn'.symm.trans Tryz.func3)
  subst efn
  obtain ⟨⟨⟨ds, gs, before, hW0, -⟩, hL0⟩, -⟩ := hpre
  have hW1 := DataW.Whole.of_heap (w' := w.forCall tape i) (by rfl) hW0
  have hL1 : laidMetH Tryz.prog Rows.gaugeTextsRow.laid (w.forCall tape i) := hL0.of_heap (by rfl)
  refine (texts_call (w.forCall tape i) w.heap.size i.args ds gs before hval1 hW1 hL1 hsh0).mono fun e W' ⟨v, he, hp⟩ => ?_
  subst he
  exact ChangeSpec.post_blind hp

set_option maxRecDepth 1000000 in
theorem gaugeTexts_holds : Rows.GaugeTextsSaid :=
  OpenClaim.holds_of_wide 3 Tryz.f3 rfl rfl rfl rfl rfl rfl rfl ⟨rfl, rfl, rfl, rfl, rfl⟩ rfl rfl rfl rfl rfl (by kernel_rfl) Tryz.func3 (by kernel_rfl)
    (of_decide_eq_true (by kernel_rfl)) (by unfold Func.isWrapper; first | (rw [if_pos (by decide +kernel)]; kernel_rfl) | (rw [if_neg (by decide +kernel)]; exact ⟨rfl, rfl⟩))
    (fun os started H enc _ => gaugeTexts_lifted os started H enc)

set_option maxRecDepth 1000000 in
theorem gaugeTexts_card : Rows.GaugeTextsCardSaid :=
  Claim7.holds_tied_plain_at .later [] [.data, .data, .data, .data, .pinned] true (true, "bbee303f417b5fecf44f3860c80dd4b76ab3a056c82a749920830982b0dc032a") false
    gaugeTexts_holds (fun _ h => by cases h) (by kernel_rfl) (fun _ h => by cases h) gaugeTexts_row_tie rfl ⟨rfl, rfl⟩ (by kernel_rfl) rfl
    (fun f fn hf hfn => by
      obtain rfl : f = 3 := Option.some.inj ((show Tryz.prog.funcNamed "tideway/tidewaylaw01.GaugeTexts" = some 3 by kernel_rfl).symm.trans hf) |>.symm
      obtain rfl : fn = Tryz.f3 := (Option.some.inj (Tryz.func3.symm.trans hfn)).symm
      exact ⟨by kernel_rfl, fun j t ht => by
        rw [Tryz.params3] at ht
        have hm : t ∈ [25, 9] := by simpa using Array.mem_of_getElem? ht
        have hall : ([25, 9].all fun u => !Tryz.prog.wantsStandIn u) = true := by kernel_rfl
        exact (show Tryz.prog.wantsStandIn t = false by simpa using List.all_eq_true.1 hall t hm)⟩)
    (by kernel_rfl)
end Go.Proofs.YtnncmaegmlaabaaGreatDoor
