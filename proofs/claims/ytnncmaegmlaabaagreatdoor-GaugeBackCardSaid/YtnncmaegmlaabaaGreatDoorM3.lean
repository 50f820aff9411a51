/-
  The statements' example: the program gives what the document says.
-/
import Derived.Test.YtnncmaegmlaabaaGreatDoorProg
import Derived.Test.YtnncmaegmlaabaaGreatDoorMT
namespace Go.Proofs.YtnncmaegmlaabaaGreatDoor
open Go.RowKit Go.Shelf
attribute [local go_sem] Oper.semAt_some eq3c eqGSt eqF1 eqF2

set_option maxRecDepth 1000000 in
set_option maxHeartbeats 8000000 in
theorem awake_any (w : World) : Calls Tryz.prog 6 #[] w fun e w' => e = .returned (.bool true) ∧ Below w.heap.size w w' := by
  have HB : Hid (Below w.heap.size w w) := hd (Below.refl w.heap.size w)
  go_enter Tryz.func6, Tryz.ntmps6
  go_wp2_with fail
  have hs0 := World.size_alloc w (.cells #[.int .i64 0, .int .i64 4, .int .i64 6, .int .i64 9] 63)
  have hb := (Below.refl w.heap.size w).alloc (Nat.le_refl _) (.cells #[.int .i64 0, .int .i64 4, .int .i64 6, .int .i64 9] 63)
  replace HB := hd (HB.out.trans (hb.mono (HB.out.size)))
  have hR := Rd.new w #[.int .i64 0, .int .i64 4, .int .i64 6, .int .i64 9] 63 2 (spc exA) rfl (by decide)
  generalize (w.alloc (.cells #[.int .i64 0, .int .i64 4, .int .i64 6, .int .i64 9] 63)) = w1 at *
  clear hb
  have RA := hd hR
  clear hR
  have hs1 := World.size_alloc w1 (.cells #[.int .i64 2, .int .i64 7] 63)
  have hb := (Below.refl w1.heap.size w1).alloc (Nat.le_refl _) (.cells #[.int .i64 2, .int .i64 7] 63)
  replace HB := hd (HB.out.trans (hb.mono (HB.out.size)))
  replace RA := hd (RA.out.up hb)
  have hR := Rd.new w1 #[.int .i64 2, .int .i64 7] 63 1 (spc exB) rfl (by decide)
  generalize (w1.alloc (.cells #[.int .i64 2, .int .i64 7] 63)) = w2 at *
  clear hb
  rw [hs0] at hR
  have RB := hd hR
  clear hR
  clear hs0 hs1
  refine (ex_join_any _ _ w2 RA.out RB.out).mono ?_
  rintro e w3 ⟨j, rfl, hj, hb⟩
  replace HB := hd (HB.out.trans (hb.mono (HB.out.size)))
  replace RA := hd (RA.out.up hb)
  replace RB := hd (RB.out.up hb)
  have RJ := hd hj
  clear hb hj
  go_wp2_with fail
  refine (ex_meet_any _ _ w3 RA.out RB.out).mono ?_
  rintro e w4 ⟨m, rfl, hm, hb⟩
  replace HB := hd (HB.out.trans (hb.mono (HB.out.size)))
  replace RA := hd (RA.out.up hb)
  replace RB := hd (RB.out.up hb)
  replace RJ := hd (RJ.out.up hb)
  have RM := hd hm
  clear hb hm
  go_wp2_with fail
  refine (ex_minus_any _ _ w4 RA.out RB.out).mono ?_
  rintro e w5 ⟨d, rfl, hd', hb⟩
  replace HB := hd (HB.out.trans (hb.mono (HB.out.size)))
  replace RA := hd (RA.out.up hb)
  replace RB := hd (RB.out.up hb)
  replace RJ := hd (RJ.out.up hb)
  replace RM := hd (RM.out.up hb)
  have RD := hd hd'
  clear hb hd'
  go_wp2_with fail
  clear RA RB
  have hb := (Below.refl w5.heap.size w5).alloc (Nat.le_refl _) (.cells #[.int .i64 0, .int .i64 9] 63)
  replace HB := hd (HB.out.trans (hb.mono (HB.out.size)))
  replace RJ := hd (RJ.out.up hb)
  replace RM := hd (RM.out.up hb)
  replace RD := hd (RD.out.up hb)
  have C1 := hd (Rd.new w5 #[.int .i64 0, .int .i64 9] 63 1 (spc [(0, 9)]) rfl (by decide))
  generalize (w5.alloc (.cells #[.int .i64 0, .int .i64 9] 63)) = w6 at *
  clear hb
  refine (spans_yes [(0, 9)] _ _ w6 RJ.out C1.out).mono ?_
  rintro e w7 ⟨rfl, hb⟩
  replace HB := hd (HB.out.trans (hb.mono (HB.out.size)))
  replace RJ := hd (RJ.out.up hb)
  replace RM := hd (RM.out.up hb)
  replace RD := hd (RD.out.up hb)
  replace C1 := hd (C1.out.up hb)
  clear hb
  clear C1 RJ
  go_wp2_with fail
  have hb := (Below.refl w7.heap.size w7).alloc (Nat.le_refl _) (.cells #[.int .i64 2, .int .i64 4, .int .i64 6, .int .i64 7] 63)
  replace HB := hd (HB.out.trans (hb.mono (HB.out.size)))
  replace RM := hd (RM.out.up hb)
  replace RD := hd (RD.out.up hb)
  have C2 := hd (Rd.new w7 #[.int .i64 2, .int .i64 4, .int .i64 6, .int .i64 7] 63 2 (spc [(2, 4), (6, 7)]) rfl (by decide))
  generalize (w7.alloc (.cells #[.int .i64 2, .int .i64 4, .int .i64 6, .int .i64 7] 63)) = w8 at *
  clear hb
  refine (spans_yes [(2, 4), (6, 7)] _ _ w8 RM.out C2.out).mono ?_
  rintro e w9 ⟨rfl, hb⟩
  replace HB := hd (HB.out.trans (hb.mono (HB.out.size)))
  replace RM := hd (RM.out.up hb)
  replace RD := hd (RD.out.up hb)
  replace C2 := hd (C2.out.up hb)
  clear hb
  clear C2 RM
  go_wp2_with fail
  have hb := (Below.refl w9.heap.size w9).alloc (Nat.le_refl _) (.cells #[.int .i64 0, .int .i64 2, .int .i64 7, .int .i64 9] 63)
  replace HB := hd (HB.out.trans (hb.mono (HB.out.size)))
  replace RD := hd (RD.out.up hb)
  have C3 := hd (Rd.new w9 #[.int .i64 0, .int .i64 2, .int .i64 7, .int .i64 9] 63 2 (spc [(0, 2), (7, 9)]) rfl (by decide))
  generalize (w9.alloc (.cells #[.int .i64 0, .int .i64 2, .int .i64 7, .int .i64 9] 63)) = w10 at *
  clear hb
  refine (spans_yes [(0, 2), (7, 9)] _ _ w10 RD.out C3.out).mono ?_
  rintro e w11 ⟨rfl, hb⟩
  replace HB := hd (HB.out.trans (hb.mono (HB.out.size)))
  replace RD := hd (RD.out.up hb)
  replace C3 := hd (C3.out.up hb)
  clear hb
  clear C3 RD
  go_wp2_with fail
  have hb := (Below.refl w11.heap.size w11).alloc (Nat.le_refl _) (.cells #[.string ⟨#[106, 117, 109, 112]⟩, .int .i64 16, .int .i64 0, .string ⟨#[115, 116, 117, 99, 107]⟩, .int .i64 2, .int .i64 0] 53)
  replace HB := hd (HB.out.trans (hb.mono (HB.out.size)))
  have RR := hd (Rd.new w11 #[.string ⟨#[106, 117, 109, 112]⟩, .int .i64 16, .int .i64 0, .string ⟨#[115, 116, 117, 99, 107]⟩, .int .i64 2, .int .i64 0] 53 2 (ruc exR) rfl (by decide))
  generalize (w11.alloc (.cells #[.string ⟨#[106, 117, 109, 112]⟩, .int .i64 16, .int .i64 0, .string ⟨#[115, 116, 117, 99, 107]⟩, .int .i64 2, .int .i64 0] 53)) = w12 at *
  clear hb
  refine (hook_any w12).mono ?_
  rintro e w13 ⟨lv1, gv1, rfl, hl1, hg1, hb⟩
  replace HB := hd (HB.out.trans (hb.mono (HB.out.size)))
  replace RR := hd (RR.out.up hb)
  have HL1 := hd hl1
  have HG1 := hd hg1
  clear hb hl1 hg1
  go_wp2_with fail
  refine (ex_reasons_any _ _ w13 HL1.out HG1.out _ RR.out).mono ?_
  rintro e w14 ⟨r, rfl, hr, hb⟩
  replace HB := hd (HB.out.trans (hb.mono (HB.out.size)))
  replace RR := hd (RR.out.up hb)
  replace HL1 := hd (HL1.out.up hb)
  replace HG1 := hd (HG1.out.up hb)
  have RS := hd hr
  clear hb hr
  clear HL1 HG1
  go_wp2_with fail
  refine (hook_any w14).mono ?_
  rintro e w15 ⟨lv2, gv2, rfl, hl2, hg2, hb⟩
  replace HB := hd (HB.out.trans (hb.mono (HB.out.size)))
  replace RR := hd (RR.out.up hb)
  replace RS := hd (RS.out.up hb)
  have HL2 := hd hl2
  have HG2 := hd hg2
  clear hb hl2 hg2
  go_wp2_with fail
  refine (ex_clean_any _ _ w15 HL2.out HG2.out _ RR.out).mono ?_
  rintro e w16 ⟨A1, m1, c1, A2, c2, rfl, hc, hb⟩
  replace HB := hd (HB.out.trans (hb.mono (HB.out.size)))
  replace RR := hd (RR.out.up hb)
  replace RS := hd (RS.out.up hb)
  replace HL2 := hd (HL2.out.up hb)
  replace HG2 := hd (HG2.out.up hb)
  have RC := hd hc
  clear hb hc
  clear HL2 HG2
  clear RR
  go_wp2_with fail
  have hb := (Below.refl w16.heap.size w16).alloc (Nat.le_refl _) (.cells #[.string hkN, .int .i64 10, .slice A1 m1 c1, .slice A2 2 c2] 31)
  replace HB := hd (HB.out.trans (hb.mono (HB.out.size)))
  replace RS := hd (RS.out.up hb)
  replace RC := hd (RC.out.up hb)
  have BC := hd (Blk.new w16 #[.string hkN, .int .i64 10, .slice A1 m1 c1, .slice A2 2 c2] 31)
  generalize (w16.alloc (.cells #[.string hkN, .int .i64 10, .slice A1 m1 c1, .slice A2 2 c2] 31)) = w17 at *
  clear hb
  refine (hook_any w17).mono ?_
  rintro e w18 ⟨lv3, gv3, rfl, hl3, hg3, hb⟩
  replace HB := hd (HB.out.trans (hb.mono (HB.out.size)))
  replace RS := hd (RS.out.up hb)
  replace RC := hd (RC.out.up hb)
  replace BC := hd (BC.out.up hb)
  have HL3 := hd hl3
  have HG3 := hd hg3
  clear hb hl3 hg3
  go_wp2_with fail
  have hb := (Below.refl w18.heap.size w18).alloc (Nat.le_refl _) (.cells #[.string ⟨#[114, 97, 110, 103, 101]⟩, .int .i64 0, .int .i64 48] 53)
  replace HB := hd (HB.out.trans (hb.mono (HB.out.size)))
  replace RS := hd (RS.out.up hb)
  replace RC := hd (RC.out.up hb)
  replace BC := hd (BC.out.up hb)
  replace HL3 := hd (HL3.out.up hb)
  replace HG3 := hd (HG3.out.up hb)
  have RR := hd (Rd.new w18 #[.string ⟨#[114, 97, 110, 103, 101]⟩, .int .i64 0, .int .i64 48] 53 1 (ruc exN) rfl (by decide))
  generalize (w18.alloc (.cells #[.string ⟨#[114, 97, 110, 103, 101]⟩, .int .i64 0, .int .i64 48] 53)) = w19 at *
  clear hb
  refine (ex_range_any _ _ w19 HL3.out HG3.out _ RR.out).mono ?_
  rintro e w20 ⟨n, rfl, hn, hb⟩
  replace HB := hd (HB.out.trans (hb.mono (HB.out.size)))
  replace RS := hd (RS.out.up hb)
  replace RC := hd (RC.out.up hb)
  replace BC := hd (BC.out.up hb)
  replace HL3 := hd (HL3.out.up hb)
  replace HG3 := hd (HG3.out.up hb)
  replace RR := hd (RR.out.up hb)
  have RN := hd hn
  clear hb hn
  clear HL3 HG3
  clear RR
  go_wp2_with fail
  refine (hook_any w20).mono ?_
  rintro e w21 ⟨lv4, gv4, rfl, hl4, hg4, hb⟩
  replace HB := hd (HB.out.trans (hb.mono (HB.out.size)))
  replace RS := hd (RS.out.up hb)
  replace RC := hd (RC.out.up hb)
  replace BC := hd (BC.out.up hb)
  replace RN := hd (RN.out.up hb)
  have HL4 := hd hl4
  have HG4 := hd hg4
  clear hb hl4 hg4
  go_wp2_with fail
  refine (ex_fill_any _ _ w21 HL4.out HG4.out).mono ?_
  rintro e w22 ⟨A3, c3, A4, c4, s, rfl, hf, hs, hb⟩
  replace HB := hd (HB.out.trans (hb.mono (HB.out.size)))
  replace RS := hd (RS.out.up hb)
  replace RC := hd (RC.out.up hb)
  replace BC := hd (BC.out.up hb)
  replace RN := hd (RN.out.up hb)
  replace HL4 := hd (HL4.out.up hb)
  replace HG4 := hd (HG4.out.up hb)
  have RF := hd hf
  have RS2 := hd hs
  clear hb hf hs
  clear HL4 HG4
  go_wp2_with fail
  have hs0 := World.size_alloc w22 (.cells #[.string hkN, .int .i64 10, .slice A3 7 c3, .slice A4 0 c4] 31)
  have hb := (Below.refl w22.heap.size w22).alloc (Nat.le_refl _) (.cells #[.string hkN, .int .i64 10, .slice A3 7 c3, .slice A4 0 c4] 31)
  replace HB := hd (HB.out.trans (hb.mono (HB.out.size)))
  replace RS := hd (RS.out.up hb)
  replace RC := hd (RC.out.up hb)
  replace BC := hd (BC.out.up hb)
  replace RN := hd (RN.out.up hb)
  replace RF := hd (RF.out.up hb)
  replace RS2 := hd (RS2.out.up hb)
  have hR := Blk.new w22 #[.string hkN, .int .i64 10, .slice A3 7 c3, .slice A4 0 c4] 31
  generalize (w22.alloc (.cells #[.string hkN, .int .i64 10, .slice A3 7 c3, .slice A4 0 c4] 31)) = w23 at *
  clear hb
  have BF := hd hR
  clear hR
  have hs1 := World.size_alloc w23 (.cells #[.int .i64 0, .int .i64 0, .int .i64 2, .int .i64 1, .int .i64 0, .int .i64 0, .int .i64 0] 3)
  have hb := (Below.refl w23.heap.size w23).alloc (Nat.le_refl _) (.cells #[.int .i64 0, .int .i64 0, .int .i64 2, .int .i64 1, .int .i64 0, .int .i64 0, .int .i64 0] 3)
  replace HB := hd (HB.out.trans (hb.mono (HB.out.size)))
  replace RS := hd (RS.out.up hb)
  replace RC := hd (RC.out.up hb)
  replace BC := hd (BC.out.up hb)
  replace RN := hd (RN.out.up hb)
  replace RF := hd (RF.out.up hb)
  replace RS2 := hd (RS2.out.up hb)
  replace BF := hd (BF.out.up hb)
  have hR := Rd.new w23 #[.int .i64 0, .int .i64 0, .int .i64 2, .int .i64 1, .int .i64 0, .int .i64 0, .int .i64 0] 3 7 ((([0, 0, 2, 1, 0, 0, 0] : List Int).map (Value.int .i64))) rfl (by decide)
  generalize (w23.alloc (.cells #[.int .i64 0, .int .i64 0, .int .i64 2, .int .i64 1, .int .i64 0, .int .i64 0, .int .i64 0] 3)) = w24 at *
  clear hb
  rw [hs0] at hR
  have C1 := hd hR
  clear hR
  clear hs0 hs1
  refine (ints_yes [0, 0, 2, 1, 0, 0, 0] _ _ w24 RS.out C1.out).mono ?_
  rintro e w25 ⟨rfl, hb⟩
  replace HB := hd (HB.out.trans (hb.mono (HB.out.size)))
  replace RS := hd (RS.out.up hb)
  replace RC := hd (RC.out.up hb)
  replace BC := hd (BC.out.up hb)
  replace RN := hd (RN.out.up hb)
  replace RF := hd (RF.out.up hb)
  replace RS2 := hd (RS2.out.up hb)
  replace BF := hd (BF.out.up hb)
  replace C1 := hd (C1.out.up hb)
  clear hb
  clear C1 RS
  have y3 := blk_cell BC.out 3
  simp at y3
  go_wp2_with fail
  clear y3
  have hb := (Below.refl w25.heap.size w25).alloc (Nat.le_refl _) (.cells #[.int .i64 2, .int .i64 4, .int .i64 5, .int .i64 6] 63)
  replace HB := hd (HB.out.trans (hb.mono (HB.out.size)))
  replace RC := hd (RC.out.up hb)
  replace BC := hd (BC.out.up hb)
  replace RN := hd (RN.out.up hb)
  replace RF := hd (RF.out.up hb)
  replace RS2 := hd (RS2.out.up hb)
  replace BF := hd (BF.out.up hb)
  have C2 := hd (Rd.new w25 #[.int .i64 2, .int .i64 4, .int .i64 5, .int .i64 6] 63 2 (spc [(2, 4), (5, 6)]) rfl (by decide))
  generalize (w25.alloc (.cells #[.int .i64 2, .int .i64 4, .int .i64 5, .int .i64 6] 63)) = w26 at *
  clear hb
  refine (spans_yes [(2, 4), (5, 6)] _ _ w26 RC.out C2.out).mono ?_
  rintro e w27 ⟨rfl, hb⟩
  replace HB := hd (HB.out.trans (hb.mono (HB.out.size)))
  replace RC := hd (RC.out.up hb)
  replace BC := hd (BC.out.up hb)
  replace RN := hd (RN.out.up hb)
  replace RF := hd (RF.out.up hb)
  replace RS2 := hd (RS2.out.up hb)
  replace BF := hd (BF.out.up hb)
  replace C2 := hd (C2.out.up hb)
  clear hb
  clear C2 RC BC
  go_wp2_with fail
  have hb := (Below.refl w27.heap.size w27).alloc (Nat.le_refl _) (.cells #[.int .i64 0, .int .i64 0, .int .i64 0, .int .i64 1, .int .i64 0, .int .i64 0, .int .i64 0] 3)
  replace HB := hd (HB.out.trans (hb.mono (HB.out.size)))
  replace RN := hd (RN.out.up hb)
  replace RF := hd (RF.out.up hb)
  replace RS2 := hd (RS2.out.up hb)
  replace BF := hd (BF.out.up hb)
  have C3 := hd (Rd.new w27 #[.int .i64 0, .int .i64 0, .int .i64 0, .int .i64 1, .int .i64 0, .int .i64 0, .int .i64 0] 3 7 ((([0, 0, 0, 1, 0, 0, 0] : List Int).map (Value.int .i64))) rfl (by decide))
  generalize (w27.alloc (.cells #[.int .i64 0, .int .i64 0, .int .i64 0, .int .i64 1, .int .i64 0, .int .i64 0, .int .i64 0] 3)) = w28 at *
  clear hb
  refine (ints_yes [0, 0, 0, 1, 0, 0, 0] _ _ w28 RN.out C3.out).mono ?_
  rintro e w29 ⟨rfl, hb⟩
  replace HB := hd (HB.out.trans (hb.mono (HB.out.size)))
  replace RN := hd (RN.out.up hb)
  replace RF := hd (RF.out.up hb)
  replace RS2 := hd (RS2.out.up hb)
  replace BF := hd (BF.out.up hb)
  replace C3 := hd (C3.out.up hb)
  clear hb
  clear C3 RN
  have y2 := blk_cell BF.out 2
  have y3 := blk_cell BF.out 3
  simp at y2 y3
  obtain ⟨A', c', e', -, -, hx⟩ := RF.out
  cases e'
  obtain ⟨b3, o3, rfl, -, hcell⟩ := hx (by decide)
  have y5 := hcell 5 (by decide)
  simp [flc] at y5
  clear hx hcell
  go_wp2_with fail
  clear y2 y3 y5
  clear BF RF
  have hb := (Below.refl w29.heap.size w29).alloc (Nat.le_refl _) (.cells #[.int .i64 5, .int .i64 6] 63)
  replace HB := hd (HB.out.trans (hb.mono (HB.out.size)))
  replace RS2 := hd (RS2.out.up hb)
  have C4 := hd (Rd.new w29 #[.int .i64 5, .int .i64 6] 63 1 (spc [(5, 6)]) rfl (by decide))
  generalize (w29.alloc (.cells #[.int .i64 5, .int .i64 6] 63)) = w30 at *
  clear hb
  refine (spans_yes [(5, 6)] _ _ w30 RS2.out C4.out).mono ?_
  rintro e w31 ⟨rfl, hb⟩
  replace HB := hd (HB.out.trans (hb.mono (HB.out.size)))
  replace RS2 := hd (RS2.out.up hb)
  replace C4 := hd (C4.out.up hb)
  clear hb
  clear C4 RS2
  go_wp2_with fail
  have hs0 := World.size_alloc w31 (.cells #[.int .i64 2, .int .i64 3] 63)
  have hb := (Below.refl w31.heap.size w31).alloc (Nat.le_refl _) (.cells #[.int .i64 2, .int .i64 3] 63)
  replace HB := hd (HB.out.trans (hb.mono (HB.out.size)))
  have hR := Rd.new w31 #[.int .i64 2, .int .i64 3] 63 1 (spc [(2, 3)]) rfl (by decide)
  generalize (w31.alloc (.cells #[.int .i64 2, .int .i64 3] 63)) = w32 at *
  clear hb
  have RG := hd hR
  clear hR
  have hs1 := World.size_alloc w32 (.cells #[.float .f32 1065353216, .float .f32 1073741824, .float .f32 1077936128] 65)
  have hb := (Below.refl w32.heap.size w32).alloc (Nat.le_refl _) (.cells #[.float .f32 1065353216, .float .f32 1073741824, .float .f32 1077936128] 65)
  replace HB := hd (HB.out.trans (hb.mono (HB.out.size)))
  replace RG := hd (RG.out.up hb)
  have hR := Rd.new w32 #[.float .f32 1065353216, .float .f32 1073741824, .float .f32 1077936128] 65 3 (flc (exL 0)) rfl (by decide)
  generalize (w32.alloc (.cells #[.float .f32 1065353216, .float .f32 1073741824, .float .f32 1077936128] 65)) = w33 at *
  clear hb
  rw [hs0] at hR
  have RA := hd hR
  clear hR
  have hs2 := World.size_alloc w33 (.cells #[.float .f32 1065353216, .float .f32 1082130432, .float .f32 0] 65)
  have hb := (Below.refl w33.heap.size w33).alloc (Nat.le_refl _) (.cells #[.float .f32 1065353216, .float .f32 1082130432, .float .f32 0] 65)
  replace HB := hd (HB.out.trans (hb.mono (HB.out.size)))
  replace RG := hd (RG.out.up hb)
  replace RA := hd (RA.out.up hb)
  have hR := Rd.new w33 #[.float .f32 1065353216, .float .f32 1082130432, .float .f32 0] 65 3 (flc (exL 1)) rfl (by decide)
  generalize (w33.alloc (.cells #[.float .f32 1065353216, .float .f32 1082130432, .float .f32 0] 65)) = w34 at *
  clear hb
  rw [hs1] at hR
  rw [hs0] at hR
  have RB := hd hR
  clear hR
  have hs3 := World.size_alloc w34 (.cells #[.float .f32 1077936128, .float .f32 1077936128, .float .f32 0] 65)
  have hb := (Below.refl w34.heap.size w34).alloc (Nat.le_refl _) (.cells #[.float .f32 1077936128, .float .f32 1077936128, .float .f32 0] 65)
  replace HB := hd (HB.out.trans (hb.mono (HB.out.size)))
  replace RG := hd (RG.out.up hb)
  replace RA := hd (RA.out.up hb)
  replace RB := hd (RB.out.up hb)
  have hR := Rd.new w34 #[.float .f32 1077936128, .float .f32 1077936128, .float .f32 0] 65 3 (flc (exL 2)) rfl (by decide)
  generalize (w34.alloc (.cells #[.float .f32 1077936128, .float .f32 1077936128, .float .f32 0] 65)) = w35 at *
  clear hb
  rw [hs2] at hR
  rw [hs1] at hR
  rw [hs0] at hR
  have RC := hd hR
  clear hR
  clear hs0 hs1 hs2 hs3
  refine (ex_vote_any _ _ _ _ w35 RA.out RB.out RC.out RG.out).mono ?_
  rintro e w36 ⟨A5, c5, A6, c6, rfl, hv, hq, hb⟩
  replace HB := hd (HB.out.trans (hb.mono (HB.out.size)))
  replace RG := hd (RG.out.up hb)
  replace RA := hd (RA.out.up hb)
  replace RB := hd (RB.out.up hb)
  replace RC := hd (RC.out.up hb)
  have RV := hd hv
  have RQ := hd hq
  clear hb hv hq
  clear RA RB RC
  go_wp2_with fail
  have hs0 := World.size_alloc w36 (.cells #[.string ⟨#[97]⟩, .int .i64 0, .slice A5 3 c5, .slice A6 1 c6] 31)
  have hb := (Below.refl w36.heap.size w36).alloc (Nat.le_refl _) (.cells #[.string ⟨#[97]⟩, .int .i64 0, .slice A5 3 c5, .slice A6 1 c6] 31)
  replace HB := hd (HB.out.trans (hb.mono (HB.out.size)))
  replace RG := hd (RG.out.up hb)
  replace RV := hd (RV.out.up hb)
  replace RQ := hd (RQ.out.up hb)
  have hR := Blk.new w36 #[.string ⟨#[97]⟩, .int .i64 0, .slice A5 3 c5, .slice A6 1 c6] 31
  generalize (w36.alloc (.cells #[.string ⟨#[97]⟩, .int .i64 0, .slice A5 3 c5, .slice A6 1 c6] 31)) = w37 at *
  clear hb
  have BV := hd hR
  clear hR
  have hs1 := World.size_alloc w37 (.cells #[.int .i64 0, .int .i64 0, .int .i64 1] 80)
  have hb := (Below.refl w37.heap.size w37).alloc (Nat.le_refl _) (.cells #[.int .i64 0, .int .i64 0, .int .i64 1] 80)
  replace HB := hd (HB.out.trans (hb.mono (HB.out.size)))
  replace RG := hd (RG.out.up hb)
  replace RV := hd (RV.out.up hb)
  replace RQ := hd (RQ.out.up hb)
  replace BV := hd (BV.out.up hb)
  have hR := Blk.new w37 #[.int .i64 0, .int .i64 0, .int .i64 1] 80
  generalize (w37.alloc (.cells #[.int .i64 0, .int .i64 0, .int .i64 1] 80)) = w38 at *
  clear hb
  rw [hs0] at hR
  have BO := hd hR
  clear hR
  clear hs0 hs1
  refine (hook_any w38).mono ?_
  rintro e w39 ⟨lv5, gv5, rfl, hl5, hg5, hb⟩
  replace HB := hd (HB.out.trans (hb.mono (HB.out.size)))
  replace RG := hd (RG.out.up hb)
  replace RV := hd (RV.out.up hb)
  replace RQ := hd (RQ.out.up hb)
  replace BV := hd (BV.out.up hb)
  replace BO := hd (BO.out.up hb)
  have HL5 := hd hl5
  have HG5 := hd hg5
  clear hb hl5 hg5
  go_wp2_with fail
  refine (ex_highs_any _ _ w39 HL5.out HG5.out).mono ?_
  rintro e w40 ⟨h, rfl, hh, hb⟩
  replace HB := hd (HB.out.trans (hb.mono (HB.out.size)))
  replace RG := hd (RG.out.up hb)
  replace RV := hd (RV.out.up hb)
  replace RQ := hd (RQ.out.up hb)
  replace BV := hd (BV.out.up hb)
  replace BO := hd (BO.out.up hb)
  replace HL5 := hd (HL5.out.up hb)
  replace HG5 := hd (HG5.out.up hb)
  have RH := hd hh
  clear hb hh
  clear HL5 HG5
  go_wp2_with fail
  refine (hook_any w40).mono ?_
  rintro e w41 ⟨lv6, gv6, rfl, hl6, hg6, hb⟩
  replace HB := hd (HB.out.trans (hb.mono (HB.out.size)))
  replace RG := hd (RG.out.up hb)
  replace RV := hd (RV.out.up hb)
  replace RQ := hd (RQ.out.up hb)
  replace BV := hd (BV.out.up hb)
  replace BO := hd (BO.out.up hb)
  replace RH := hd (RH.out.up hb)
  have HL6 := hd hl6
  have HG6 := hd hg6
  clear hb hl6 hg6
  go_wp2_with fail
  refine (ex_lows_any _ _ w41 HL6.out HG6.out).mono ?_
  rintro e w42 ⟨o, rfl, ho, hb⟩
  replace HB := hd (HB.out.trans (hb.mono (HB.out.size)))
  replace RG := hd (RG.out.up hb)
  replace RV := hd (RV.out.up hb)
  replace RQ := hd (RQ.out.up hb)
  replace BV := hd (BV.out.up hb)
  replace BO := hd (BO.out.up hb)
  replace RH := hd (RH.out.up hb)
  replace HL6 := hd (HL6.out.up hb)
  replace HG6 := hd (HG6.out.up hb)
  have RO := hd ho
  clear hb ho
  clear HL6 HG6
  go_wp2_with fail
  refine (hook_any w42).mono ?_
  rintro e w43 ⟨lv7, gv7, rfl, hl7, hg7, hb⟩
  replace HB := hd (HB.out.trans (hb.mono (HB.out.size)))
  replace RG := hd (RG.out.up hb)
  replace RV := hd (RV.out.up hb)
  replace RQ := hd (RQ.out.up hb)
  replace BV := hd (BV.out.up hb)
  replace BO := hd (BO.out.up hb)
  replace RH := hd (RH.out.up hb)
  replace RO := hd (RO.out.up hb)
  have HL7 := hd hl7
  have HG7 := hd hg7
  clear hb hl7 hg7
  go_wp2_with fail
  refine (ex_lows1_any _ _ w43 HL7.out HG7.out).mono ?_
  rintro e w44 ⟨p, rfl, hp, hb⟩
  replace HB := hd (HB.out.trans (hb.mono (HB.out.size)))
  replace RG := hd (RG.out.up hb)
  replace RV := hd (RV.out.up hb)
  replace RQ := hd (RQ.out.up hb)
  replace BV := hd (BV.out.up hb)
  replace BO := hd (BO.out.up hb)
  replace RH := hd (RH.out.up hb)
  replace RO := hd (RO.out.up hb)
  replace HL7 := hd (HL7.out.up hb)
  replace HG7 := hd (HG7.out.up hb)
  have RP := hd hp
  clear hb hp
  clear HL7 HG7
  go_wp2_with fail
  refine (hook_any w44).mono ?_
  rintro e w45 ⟨lv8, gv8, rfl, hl8, hg8, hb⟩
  replace HB := hd (HB.out.trans (hb.mono (HB.out.size)))
  replace RG := hd (RG.out.up hb)
  replace RV := hd (RV.out.up hb)
  replace RQ := hd (RQ.out.up hb)
  replace BV := hd (BV.out.up hb)
  replace BO := hd (BO.out.up hb)
  replace RH := hd (RH.out.up hb)
  replace RO := hd (RO.out.up hb)
  replace RP := hd (RP.out.up hb)
  have HL8 := hd hl8
  have HG8 := hd hg8
  clear hb hl8 hg8
  go_wp2_with fail
  refine (ex_above_any _ _ w45 HL8.out HG8.out).mono ?_
  rintro e w46 ⟨u, rfl, hu, hb⟩
  replace HB := hd (HB.out.trans (hb.mono (HB.out.size)))
  replace RG := hd (RG.out.up hb)
  replace RV := hd (RV.out.up hb)
  replace RQ := hd (RQ.out.up hb)
  replace BV := hd (BV.out.up hb)
  replace BO := hd (BO.out.up hb)
  replace RH := hd (RH.out.up hb)
  replace RO := hd (RO.out.up hb)
  replace RP := hd (RP.out.up hb)
  replace HL8 := hd (HL8.out.up hb)
  replace HG8 := hd (HG8.out.up hb)
  have RU := hd hu
  clear hb hu
  clear HL8 HG8
  go_wp2_with fail
  refine (hook_any w46).mono ?_
  rintro e w47 ⟨lv9, gv9, rfl, hl9, hg9, hb⟩
  replace HB := hd (HB.out.trans (hb.mono (HB.out.size)))
  replace RG := hd (RG.out.up hb)
  replace RV := hd (RV.out.up hb)
  replace RQ := hd (RQ.out.up hb)
  replace BV := hd (BV.out.up hb)
  replace BO := hd (BO.out.up hb)
  replace RH := hd (RH.out.up hb)
  replace RO := hd (RO.out.up hb)
  replace RP := hd (RP.out.up hb)
  replace RU := hd (RU.out.up hb)
  have HL9 := hd hl9
  have HG9 := hd hg9
  clear hb hl9 hg9
  go_wp2_with fail
  refine (ex_sum_any _ _ w47 HL9.out HG9.out).mono ?_
  rintro e w48 ⟨rfl, hb⟩
  replace HB := hd (HB.out.trans (hb.mono (HB.out.size)))
  replace RG := hd (RG.out.up hb)
  replace RV := hd (RV.out.up hb)
  replace RQ := hd (RQ.out.up hb)
  replace BV := hd (BV.out.up hb)
  replace BO := hd (BO.out.up hb)
  replace RH := hd (RH.out.up hb)
  replace RO := hd (RO.out.up hb)
  replace RP := hd (RP.out.up hb)
  replace RU := hd (RU.out.up hb)
  replace HL9 := hd (HL9.out.up hb)
  replace HG9 := hd (HG9.out.up hb)
  clear hb
  clear HL9 HG9
  go_wp2_with fail
  have hs0 := World.size_alloc w48 (.cells #[.int .i64 6, .int .i64 184, .float .f32 1065353216, .float .f32 1084227584] 67)
  have hb := (Below.refl w48.heap.size w48).alloc (Nat.le_refl _) (.cells #[.int .i64 6, .int .i64 184, .float .f32 1065353216, .float .f32 1084227584] 67)
  replace HB := hd (HB.out.trans (hb.mono (HB.out.size)))
  replace RG := hd (RG.out.up hb)
  replace RV := hd (RV.out.up hb)
  replace RQ := hd (RQ.out.up hb)
  replace BV := hd (BV.out.up hb)
  replace BO := hd (BO.out.up hb)
  replace RH := hd (RH.out.up hb)
  replace RO := hd (RO.out.up hb)
  replace RP := hd (RP.out.up hb)
  replace RU := hd (RU.out.up hb)
  have hR := Blk.new w48 #[.int .i64 6, .int .i64 184, .float .f32 1065353216, .float .f32 1084227584] 67
  generalize (w48.alloc (.cells #[.int .i64 6, .int .i64 184, .float .f32 1065353216, .float .f32 1084227584] 67)) = w49 at *
  clear hb
  have BS := hd hR
  clear hR
  clear hs0
  refine (hook_any w49).mono ?_
  rintro e w50 ⟨lv10, gv10, rfl, hl10, hg10, hb⟩
  replace HB := hd (HB.out.trans (hb.mono (HB.out.size)))
  replace RG := hd (RG.out.up hb)
  replace RV := hd (RV.out.up hb)
  replace RQ := hd (RQ.out.up hb)
  replace BV := hd (BV.out.up hb)
  replace BO := hd (BO.out.up hb)
  replace RH := hd (RH.out.up hb)
  replace RO := hd (RO.out.up hb)
  replace RP := hd (RP.out.up hb)
  replace RU := hd (RU.out.up hb)
  replace BS := hd (BS.out.up hb)
  have HL10 := hd hl10
  have HG10 := hd hg10
  clear hb hl10 hg10
  go_wp2_with fail
  refine (ex_print_any _ _ w50 HL10.out HG10.out).mono ?_
  rintro e w51 ⟨rfl, hb⟩
  replace HB := hd (HB.out.trans (hb.mono (HB.out.size)))
  replace RG := hd (RG.out.up hb)
  replace RV := hd (RV.out.up hb)
  replace RQ := hd (RQ.out.up hb)
  replace BV := hd (BV.out.up hb)
  replace BO := hd (BO.out.up hb)
  replace RH := hd (RH.out.up hb)
  replace RO := hd (RO.out.up hb)
  replace RP := hd (RP.out.up hb)
  replace RU := hd (RU.out.up hb)
  replace BS := hd (BS.out.up hb)
  replace HL10 := hd (HL10.out.up hb)
  replace HG10 := hd (HG10.out.up hb)
  clear hb
  clear HL10 HG10
  go_wp2_with fail
  refine (hook_any w51).mono ?_
  rintro e w52 ⟨lv11, gv11, rfl, hl11, hg11, hb⟩
  replace HB := hd (HB.out.trans (hb.mono (HB.out.size)))
  replace RG := hd (RG.out.up hb)
  replace RV := hd (RV.out.up hb)
  replace RQ := hd (RQ.out.up hb)
  replace BV := hd (BV.out.up hb)
  replace BO := hd (BO.out.up hb)
  replace RH := hd (RH.out.up hb)
  replace RO := hd (RO.out.up hb)
  replace RP := hd (RP.out.up hb)
  replace RU := hd (RU.out.up hb)
  replace BS := hd (BS.out.up hb)
  have HL11 := hd hl11
  have HG11 := hd hg11
  clear hb hl11 hg11
  go_wp2_with fail
  refine (ex_enc_any _ _ w52 HL11.out HG11.out).mono ?_
  rintro e w53 ⟨y, rfl, hy, hb⟩
  replace HB := hd (HB.out.trans (hb.mono (HB.out.size)))
  replace RG := hd (RG.out.up hb)
  replace RV := hd (RV.out.up hb)
  replace RQ := hd (RQ.out.up hb)
  replace BV := hd (BV.out.up hb)
  replace BO := hd (BO.out.up hb)
  replace RH := hd (RH.out.up hb)
  replace RO := hd (RO.out.up hb)
  replace RP := hd (RP.out.up hb)
  replace RU := hd (RU.out.up hb)
  replace BS := hd (BS.out.up hb)
  replace HL11 := hd (HL11.out.up hb)
  replace HG11 := hd (HG11.out.up hb)
  have RY := hd hy
  clear hb hy
  clear HL11 HG11
  have y2 := blk_cell BV.out 2
  simp at y2
  go_wp2_with fail
  clear y2
  have hb := (Below.refl w53.heap.size w53).alloc (Nat.le_refl _) (.cells #[.float .f32 1065353216, .float .f32 1077936128, .float .f32 0] 65)
  replace HB := hd (HB.out.trans (hb.mono (HB.out.size)))
  replace RG := hd (RG.out.up hb)
  replace RV := hd (RV.out.up hb)
  replace RQ := hd (RQ.out.up hb)
  replace BV := hd (BV.out.up hb)
  replace BO := hd (BO.out.up hb)
  replace RH := hd (RH.out.up hb)
  replace RO := hd (RO.out.up hb)
  replace RP := hd (RP.out.up hb)
  replace RU := hd (RU.out.up hb)
  replace BS := hd (BS.out.up hb)
  replace RY := hd (RY.out.up hb)
  have CC := hd (Rd.new w53 #[.float .f32 1065353216, .float .f32 1077936128, .float .f32 0] 65 3 (flc [1065353216, 1077936128, 0]) rfl (by decide))
  generalize (w53.alloc (.cells #[.float .f32 1065353216, .float .f32 1077936128, .float .f32 0] 65)) = w54 at *
  clear hb
  refine (lev3_yes _ _ w54 RV.out CC.out).mono ?_
  rintro e w55 ⟨rfl, hb⟩
  replace HB := hd (HB.out.trans (hb.mono (HB.out.size)))
  replace RG := hd (RG.out.up hb)
  replace RV := hd (RV.out.up hb)
  replace RQ := hd (RQ.out.up hb)
  replace BV := hd (BV.out.up hb)
  replace BO := hd (BO.out.up hb)
  replace RH := hd (RH.out.up hb)
  replace RO := hd (RO.out.up hb)
  replace RP := hd (RP.out.up hb)
  replace RU := hd (RU.out.up hb)
  replace BS := hd (BS.out.up hb)
  replace RY := hd (RY.out.up hb)
  replace CC := hd (CC.out.up hb)
  clear hb
  clear CC RV
  have y3 := blk_cell BV.out 3
  simp at y3
  go_wp2_with fail
  clear y3
  clear BV
  refine (spans_yes [(2, 3)] _ _ w55 RQ.out RG.out).mono ?_
  rintro e w56 ⟨rfl, hb⟩
  replace HB := hd (HB.out.trans (hb.mono (HB.out.size)))
  replace RG := hd (RG.out.up hb)
  replace RQ := hd (RQ.out.up hb)
  replace BO := hd (BO.out.up hb)
  replace RH := hd (RH.out.up hb)
  replace RO := hd (RO.out.up hb)
  replace RP := hd (RP.out.up hb)
  replace RU := hd (RU.out.up hb)
  replace BS := hd (BS.out.up hb)
  replace RY := hd (RY.out.up hb)
  clear hb
  clear RQ RG
  have y0 := blk_cell BO.out 0
  have y1 := blk_cell BO.out 1
  have y2 := blk_cell BO.out 2
  simp at y0 y1 y2
  go_wp2_with fail
  clear y0 y1 y2
  clear BO
  have hb := (Below.refl w56.heap.size w56).alloc (Nat.le_refl _) (.cells #[.int .i64 0, .int .i64 3, .int .i64 6] 3)
  replace HB := hd (HB.out.trans (hb.mono (HB.out.size)))
  replace RH := hd (RH.out.up hb)
  replace RO := hd (RO.out.up hb)
  replace RP := hd (RP.out.up hb)
  replace RU := hd (RU.out.up hb)
  replace BS := hd (BS.out.up hb)
  replace RY := hd (RY.out.up hb)
  have CC := hd (Rd.new w56 #[.int .i64 0, .int .i64 3, .int .i64 6] 3 3 ((([0, 3, 6] : List Int).map (Value.int .i64))) rfl (by decide))
  generalize (w56.alloc (.cells #[.int .i64 0, .int .i64 3, .int .i64 6] 3)) = w57 at *
  clear hb
  refine (ints_yes [0, 3, 6] _ _ w57 RH.out CC.out).mono ?_
  rintro e w58 ⟨rfl, hb⟩
  replace HB := hd (HB.out.trans (hb.mono (HB.out.size)))
  replace RH := hd (RH.out.up hb)
  replace RO := hd (RO.out.up hb)
  replace RP := hd (RP.out.up hb)
  replace RU := hd (RU.out.up hb)
  replace BS := hd (BS.out.up hb)
  replace RY := hd (RY.out.up hb)
  replace CC := hd (CC.out.up hb)
  clear hb
  clear CC RH
  go_wp2_with fail
  have hb := (Below.refl w58.heap.size w58).alloc (Nat.le_refl _) (.cells #[.int .i64 0] 3)
  replace HB := hd (HB.out.trans (hb.mono (HB.out.size)))
  replace RO := hd (RO.out.up hb)
  replace RP := hd (RP.out.up hb)
  replace RU := hd (RU.out.up hb)
  replace BS := hd (BS.out.up hb)
  replace RY := hd (RY.out.up hb)
  have CC := hd (Rd.new w58 #[.int .i64 0] 3 1 ((([0] : List Int).map (Value.int .i64))) rfl (by decide))
  generalize (w58.alloc (.cells #[.int .i64 0] 3)) = w59 at *
  clear hb
  refine (ints_yes [0] _ _ w59 RO.out CC.out).mono ?_
  rintro e w60 ⟨rfl, hb⟩
  replace HB := hd (HB.out.trans (hb.mono (HB.out.size)))
  replace RO := hd (RO.out.up hb)
  replace RP := hd (RP.out.up hb)
  replace RU := hd (RU.out.up hb)
  replace BS := hd (BS.out.up hb)
  replace RY := hd (RY.out.up hb)
  replace CC := hd (CC.out.up hb)
  clear hb
  clear CC RO
  go_wp2_with fail
  have hb := (Below.refl w60.heap.size w60).alloc (Nat.le_refl _) (.cells #[.int .i64 0, .int .i64 4, .int .i64 6] 3)
  replace HB := hd (HB.out.trans (hb.mono (HB.out.size)))
  replace RP := hd (RP.out.up hb)
  replace RU := hd (RU.out.up hb)
  replace BS := hd (BS.out.up hb)
  replace RY := hd (RY.out.up hb)
  have CC := hd (Rd.new w60 #[.int .i64 0, .int .i64 4, .int .i64 6] 3 3 ((([0, 4, 6] : List Int).map (Value.int .i64))) rfl (by decide))
  generalize (w60.alloc (.cells #[.int .i64 0, .int .i64 4, .int .i64 6] 3)) = w61 at *
  clear hb
  refine (ints_yes [0, 4, 6] _ _ w61 RP.out CC.out).mono ?_
  rintro e w62 ⟨rfl, hb⟩
  replace HB := hd (HB.out.trans (hb.mono (HB.out.size)))
  replace RP := hd (RP.out.up hb)
  replace RU := hd (RU.out.up hb)
  replace BS := hd (BS.out.up hb)
  replace RY := hd (RY.out.up hb)
  replace CC := hd (CC.out.up hb)
  clear hb
  clear CC RP
  go_wp2_with fail
  have hb := (Below.refl w62.heap.size w62).alloc (Nat.le_refl _) (.cells #[.int .i64 3, .int .i64 5, .int .i64 6, .int .i64 7] 63)
  replace HB := hd (HB.out.trans (hb.mono (HB.out.size)))
  replace RU := hd (RU.out.up hb)
  replace BS := hd (BS.out.up hb)
  replace RY := hd (RY.out.up hb)
  have CC := hd (Rd.new w62 #[.int .i64 3, .int .i64 5, .int .i64 6, .int .i64 7] 63 2 (spc [(3, 5), (6, 7)]) rfl (by decide))
  generalize (w62.alloc (.cells #[.int .i64 3, .int .i64 5, .int .i64 6, .int .i64 7] 63)) = w63 at *
  clear hb
  refine (spans_yes [(3, 5), (6, 7)] _ _ w63 RU.out CC.out).mono ?_
  rintro e w64 ⟨rfl, hb⟩
  replace HB := hd (HB.out.trans (hb.mono (HB.out.size)))
  replace RU := hd (RU.out.up hb)
  replace BS := hd (BS.out.up hb)
  replace RY := hd (RY.out.up hb)
  replace CC := hd (CC.out.up hb)
  clear hb
  clear CC RU
  have y0 := blk_cell BS.out 0
  have y1 := blk_cell BS.out 1
  have y2 := blk_cell BS.out 2
  have y3 := blk_cell BS.out 3
  simp at y0 y1 y2 y3
  obtain ⟨A', c', e', -, -, hx⟩ := RY.out
  cases e'
  obtain ⟨b9, o9, rfl, -, hcell⟩ := hx (by decide)
  have q29 := (hcell 29 (by rw [ex_enc]; decide)).trans ex_enc29
  have q30 := (hcell 30 (by rw [ex_enc]; decide)).trans ex_enc30
  clear hx hcell
  go_wp2_with fail
  first
    | (go_returns; exact ⟨rfl, HB.out⟩)
    | (go_ret; exact ⟨rfl, HB.out⟩)
end Go.Proofs.YtnncmaegmlaabaaGreatDoor
