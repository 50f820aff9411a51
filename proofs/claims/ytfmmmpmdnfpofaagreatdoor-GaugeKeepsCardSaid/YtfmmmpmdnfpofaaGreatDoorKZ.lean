/-
  GaugeKeeps (P1.3, P1.6): for every record and list of rules, just the recorded levels with a reason are removed, the cleaned record has no level that a rule removes and is cleaned again as it is, its levels keep the ranges, do not jump and are not stuck, and more rules remove no fewer levels. Conditions: the row's own (the listed library tables as the program's text lays them, tied by the card).
-/
import Derived.Test.YtfmmmpmdnfpofaaGreatDoorRows
import Derived.Test.YtfmmmpmdnfpofaaGreatDoorCards
import Derived.Test.YtfmmmpmdnfpofaaGreatDoorTie
import Derived.Test.YtfmmmpmdnfpofaaGreatDoorRow
import Derived.SevenTiedAt
import Derived.Test.YtfmmmpmdnfpofaaGreatDoorOpm
import Derived.Test.YtfmmmpmdnfpofaaGreatDoorKA
import Derived.Test.YtfmmmpmdnfpofaaGreatDoorKC
import Derived.Test.YtfmmmpmdnfpofaaGreatDoorMO
import Derived.Test.YtfmmmpmdnfpofaaGreatDoorM3
namespace Go.Proofs.YtfmmmpmdnfpofaaGreatDoor
open Go.RowKit
attribute [local go_sem] Oper.semAt_some

theorem shortRu_len9 {s n m : Nat} (h : shortR s n m = true) : n ≤ 4097 ∧ m ≤ 2049 := by
  unfold shortR at h
  simp only [Bool.and_eq_true, Bool.or_eq_true, decide_eq_true_eq] at h
  omega
theorem take_getD (l : List Ru) (m j : Nat) (h : j < m) : (l.take m).getD j ru0 = l.getD j ru0 := by
  rw [List.getD_eq_getElem?_getD, List.getElem?_take, if_pos h, ← List.getD_eq_getElem?_getD]
theorem same_lev (l : List Nat) (h : ∀ j, j < l.length → chkLev (l.getD j 0) = 0) : sameF feqL 0 l l = true := sameF_yes feqL 0 l l rfl (fun j hj => feq_self (h j hj))

set_option maxRecDepth 1000000 in
set_option maxHeartbeats 4000000 in
theorem keeps_long1 (HA : Hid Awake) (nm : ByteArray) (st : Int) (A A2 A3 : Option Addr) (c c2 c3 : Nat) (bs : List Nat) (gs : List (Int × Int)) (l : List Ru) (w : World) (HL : Hid (Rd w w.heap.size (.slice A bs.length c) bs.length (flc bs))) (HG : Hid (Rd w w.heap.size (.slice A2 gs.length c2) gs.length (spc gs))) (HU : Hid (Rd w w.heap.size (.slice A3 l.length c3) l.length (ruc l))) (hs : nm.size ≤ maxLen)
    (S1 : Hid (shortR nm.size bs.length gs.length = false)) :
    Calls Tryz.prog 3 #[.agg #[.string nm, .int .i64 st, .slice A bs.length c, .slice A2 gs.length c2], .slice A3 l.length c3] w fun e w' => e = .returned (.bool true) ∧ Below w.heap.size w w' := by
  have HQ := hd (blk_new w #[.string nm, .int .i64 st, .slice A bs.length c, .slice A2 gs.length c2] 25)
  have HB := hd ((Below.refl w.heap.size w).alloc (Nat.le_refl _) (Obj.cells #[.string nm, .int .i64 st, .slice A bs.length c, .slice A2 gs.length c2] 25))
  have RL := hd ((HL.out.below HB.out (Nat.le_refl _)).mono HB.out.size)
  have RG := hd ((HG.out.below HB.out (Nat.le_refl _)).mono HB.out.size)
  have RU := hd ((HU.out.below HB.out (Nat.le_refl _)).mono HB.out.size)
  have HS := hd hs
  clear hs
  go_enter Tryz.func3, Tryz.ntmps3
  go_wp2_with fail
  refine (HA.out _).mono ?_
  rintro e w1 ⟨rfl, hb⟩
  replace HQ := hd ((hb.block _ (blk_lt HQ.out)).trans HQ.out)
  replace HB := hd (HB.out.trans (hb.mono (HB.out.size)))
  replace RL := hd ((RL.out.below hb (Nat.le_refl _)).mono hb.size)
  replace RG := hd ((RG.out.below hb (Nat.le_refl _)).mono hb.size)
  replace RU := hd ((RU.out.below hb (Nat.le_refl _)).mono hb.size)
  clear hb
  have k0 := blk_cell HQ.out 0
  have k1 := blk_cell HQ.out 1
  have k2 := blk_cell HQ.out 2
  have k3 := blk_cell HQ.out 3
  simp at k0 k1 k2 k3
  go_wp2_with fail
  refine (short_any nm st A A2 bs.length c gs.length c2 _).mono ?_
  rw [S1.out]
  rintro e w2 ⟨rfl, hb⟩
  replace HQ := hd ((hb.block _ (blk_lt HQ.out)).trans HQ.out)
  replace HB := hd (HB.out.trans (hb.mono (HB.out.size)))
  replace RL := hd ((RL.out.below hb (Nat.le_refl _)).mono hb.size)
  replace RG := hd ((RG.out.below hb (Nat.le_refl _)).mono hb.size)
  replace RU := hd ((RU.out.below hb (Nat.le_refl _)).mono hb.size)
  clear hb
  clear k0 k1 k2 k3
  have k0 := blk_cell HQ.out 0
  have k1 := blk_cell HQ.out 1
  have k2 := blk_cell HQ.out 2
  have k3 := blk_cell HQ.out 3
  simp at k0 k1 k2 k3
  clear k0 k1 k2 k3
  go_wp2_with fail
  refine (HA.out _).mono ?_
  rintro e w4 ⟨rfl, hb⟩
  replace HB := hd (HB.out.trans (hb.mono (HB.out.size)))
  clear hb
  go_wp2_with fail
  go_returns
  exact ⟨rfl, HB.out⟩

set_option maxRecDepth 1000000 in
set_option maxHeartbeats 4000000 in
theorem keeps_long2 (HA : Hid Awake) (nm : ByteArray) (st : Int) (A A2 A3 : Option Addr) (c c2 c3 : Nat) (bs : List Nat) (gs : List (Int × Int)) (l : List Ru) (w : World) (HL : Hid (Rd w w.heap.size (.slice A bs.length c) bs.length (flc bs))) (HG : Hid (Rd w w.heap.size (.slice A2 gs.length c2) gs.length (spc gs))) (HU : Hid (Rd w w.heap.size (.slice A3 l.length c3) l.length (ruc l))) (hs : nm.size ≤ maxLen)
    (S1 : Hid (shortR nm.size bs.length gs.length = true)) (S2 : Hid ((chkRec nm st bs gs != 0) = true)) :
    Calls Tryz.prog 3 #[.agg #[.string nm, .int .i64 st, .slice A bs.length c, .slice A2 gs.length c2], .slice A3 l.length c3] w fun e w' => e = .returned (.bool true) ∧ Below w.heap.size w w' := by
  have HQ := hd (blk_new w #[.string nm, .int .i64 st, .slice A bs.length c, .slice A2 gs.length c2] 25)
  have HB := hd ((Below.refl w.heap.size w).alloc (Nat.le_refl _) (Obj.cells #[.string nm, .int .i64 st, .slice A bs.length c, .slice A2 gs.length c2] 25))
  have RL := hd ((HL.out.below HB.out (Nat.le_refl _)).mono HB.out.size)
  have RG := hd ((HG.out.below HB.out (Nat.le_refl _)).mono HB.out.size)
  have RU := hd ((HU.out.below HB.out (Nat.le_refl _)).mono HB.out.size)
  have HS := hd hs
  clear hs
  go_enter Tryz.func3, Tryz.ntmps3
  go_wp2_with fail
  refine (HA.out _).mono ?_
  rintro e w1 ⟨rfl, hb⟩
  replace HQ := hd ((hb.block _ (blk_lt HQ.out)).trans HQ.out)
  replace HB := hd (HB.out.trans (hb.mono (HB.out.size)))
  replace RL := hd ((RL.out.below hb (Nat.le_refl _)).mono hb.size)
  replace RG := hd ((RG.out.below hb (Nat.le_refl _)).mono hb.size)
  replace RU := hd ((RU.out.below hb (Nat.le_refl _)).mono hb.size)
  clear hb
  have k0 := blk_cell HQ.out 0
  have k1 := blk_cell HQ.out 1
  have k2 := blk_cell HQ.out 2
  have k3 := blk_cell HQ.out 3
  simp at k0 k1 k2 k3
  go_wp2_with fail
  refine (short_any nm st A A2 bs.length c gs.length c2 _).mono ?_
  rw [S1.out]
  rintro e w2 ⟨rfl, hb⟩
  replace HQ := hd ((hb.block _ (blk_lt HQ.out)).trans HQ.out)
  replace HB := hd (HB.out.trans (hb.mono (HB.out.size)))
  replace RL := hd ((RL.out.below hb (Nat.le_refl _)).mono hb.size)
  replace RG := hd ((RG.out.below hb (Nat.le_refl _)).mono hb.size)
  replace RU := hd ((RU.out.below hb (Nat.le_refl _)).mono hb.size)
  clear hb
  clear k0 k1 k2 k3
  have k0 := blk_cell HQ.out 0
  have k1 := blk_cell HQ.out 1
  have k2 := blk_cell HQ.out 2
  have k3 := blk_cell HQ.out 3
  simp at k0 k1 k2 k3
  go_wp2_with fail
  refine (refRec_any nm st _ _ bs gs _ RL.out RG.out HS.out).mono ?_
  have S2' := S2.out
  generalize chkRec nm st bs gs = E at S2' ⊢
  rintro e w3 ⟨rfl, hb⟩
  replace HQ := hd ((hb.block _ (blk_lt HQ.out)).trans HQ.out)
  replace HB := hd (HB.out.trans (hb.mono (HB.out.size)))
  replace RL := hd ((RL.out.below hb (Nat.le_refl _)).mono hb.size)
  replace RG := hd ((RG.out.below hb (Nat.le_refl _)).mono hb.size)
  replace RU := hd ((RU.out.below hb (Nat.le_refl _)).mono hb.size)
  clear hb
  clear k0 k1 k2 k3
  go_wp2_with fail
  refine (HA.out _).mono ?_
  rintro e w4 ⟨rfl, hb⟩
  replace HB := hd (HB.out.trans (hb.mono (HB.out.size)))
  clear hb
  go_wp2_with fail
  go_returns
  exact ⟨rfl, HB.out⟩

set_option maxRecDepth 1000000 in
set_option maxHeartbeats 4000000 in
theorem keeps_long3 (HA : Hid Awake) (nm : ByteArray) (st : Int) (A A2 A3 : Option Addr) (c c2 c3 : Nat) (bs : List Nat) (gs : List (Int × Int)) (l : List Ru) (w : World) (HL : Hid (Rd w w.heap.size (.slice A bs.length c) bs.length (flc bs))) (HG : Hid (Rd w w.heap.size (.slice A2 gs.length c2) gs.length (spc gs))) (HU : Hid (Rd w w.heap.size (.slice A3 l.length c3) l.length (ruc l))) (hs : nm.size ≤ maxLen)
    (S1 : Hid (shortR nm.size bs.length gs.length = true)) (S2 : Hid ((chkRec nm st bs gs != 0) = false)) (S3 : Hid ((chkRules l != 0) = true)) :
    Calls Tryz.prog 3 #[.agg #[.string nm, .int .i64 st, .slice A bs.length c, .slice A2 gs.length c2], .slice A3 l.length c3] w fun e w' => e = .returned (.bool true) ∧ Below w.heap.size w w' := by
  have HQ := hd (blk_new w #[.string nm, .int .i64 st, .slice A bs.length c, .slice A2 gs.length c2] 25)
  have HB := hd ((Below.refl w.heap.size w).alloc (Nat.le_refl _) (Obj.cells #[.string nm, .int .i64 st, .slice A bs.length c, .slice A2 gs.length c2] 25))
  have RL := hd ((HL.out.below HB.out (Nat.le_refl _)).mono HB.out.size)
  have RG := hd ((HG.out.below HB.out (Nat.le_refl _)).mono HB.out.size)
  have RU := hd ((HU.out.below HB.out (Nat.le_refl _)).mono HB.out.size)
  have HS := hd hs
  clear hs
  go_enter Tryz.func3, Tryz.ntmps3
  go_wp2_with fail
  refine (HA.out _).mono ?_
  rintro e w1 ⟨rfl, hb⟩
  replace HQ := hd ((hb.block _ (blk_lt HQ.out)).trans HQ.out)
  replace HB := hd (HB.out.trans (hb.mono (HB.out.size)))
  replace RL := hd ((RL.out.below hb (Nat.le_refl _)).mono hb.size)
  replace RG := hd ((RG.out.below hb (Nat.le_refl _)).mono hb.size)
  replace RU := hd ((RU.out.below hb (Nat.le_refl _)).mono hb.size)
  clear hb
  have k0 := blk_cell HQ.out 0
  have k1 := blk_cell HQ.out 1
  have k2 := blk_cell HQ.out 2
  have k3 := blk_cell HQ.out 3
  simp at k0 k1 k2 k3
  go_wp2_with fail
  refine (short_any nm st A A2 bs.length c gs.length c2 _).mono ?_
  rw [S1.out]
  rintro e w2 ⟨rfl, hb⟩
  replace HQ := hd ((hb.block _ (blk_lt HQ.out)).trans HQ.out)
  replace HB := hd (HB.out.trans (hb.mono (HB.out.size)))
  replace RL := hd ((RL.out.below hb (Nat.le_refl _)).mono hb.size)
  replace RG := hd ((RG.out.below hb (Nat.le_refl _)).mono hb.size)
  replace RU := hd ((RU.out.below hb (Nat.le_refl _)).mono hb.size)
  clear hb
  clear k0 k1 k2 k3
  have k0 := blk_cell HQ.out 0
  have k1 := blk_cell HQ.out 1
  have k2 := blk_cell HQ.out 2
  have k3 := blk_cell HQ.out 3
  simp at k0 k1 k2 k3
  go_wp2_with fail
  refine (refRec_any nm st _ _ bs gs _ RL.out RG.out HS.out).mono ?_
  have S2' := S2.out
  generalize chkRec nm st bs gs = E at S2' ⊢
  rintro e w3 ⟨rfl, hb⟩
  replace HQ := hd ((hb.block _ (blk_lt HQ.out)).trans HQ.out)
  replace HB := hd (HB.out.trans (hb.mono (HB.out.size)))
  replace RL := hd ((RL.out.below hb (Nat.le_refl _)).mono hb.size)
  replace RG := hd ((RG.out.below hb (Nat.le_refl _)).mono hb.size)
  replace RU := hd ((RU.out.below hb (Nat.le_refl _)).mono hb.size)
  clear hb
  clear k0 k1 k2 k3
  go_wp2_with fail
  refine (refRules_any _ l _ RU.out).mono ?_
  have S3' := S3.out
  generalize chkRules l = E2 at S3' ⊢
  rintro e w5 ⟨rfl, hb⟩
  replace HB := hd (HB.out.trans (hb.mono (HB.out.size)))
  clear hb
  go_wp2_with fail
  refine (HA.out _).mono ?_
  rintro e w4 ⟨rfl, hb⟩
  replace HB := hd (HB.out.trans (hb.mono (HB.out.size)))
  clear hb
  go_wp2_with fail
  go_returns
  exact ⟨rfl, HB.out⟩

theorem keeps_all (HA : Hid Awake) (nm : ByteArray) (st : Int) (lv gv rv : Value) (bs : List Nat) (gs : List (Int × Int)) (l : List Ru) (w : World) (hl : Rd w w.heap.size lv bs.length (flc bs)) (hg : Rd w w.heap.size gv gs.length (spc gs)) (hr : Rd w w.heap.size rv l.length (ruc l)) (fl : Full lv) (fg : Full gv) (hs : nm.size ≤ maxLen) :
    Calls Tryz.prog 3 #[.agg #[.string nm, .int .i64 st, lv, gv], rv] w fun e w' => e = .returned (.bool true) ∧ Below w.heap.size w w' := by
  obtain ⟨A, c, rfl, -⟩ := id hl
  obtain ⟨A2, c2, rfl, -⟩ := id hg
  obtain ⟨A3, c3, rfl, -⟩ := id hr
  cases h1 : shortR nm.size bs.length gs.length
  · exact keeps_long1 HA nm st A A2 A3 c c2 c3 bs gs l w (hd hl) (hd hg) (hd hr) hs (hd h1)
  · by_cases hE : chkRec nm st bs gs = 0
    · by_cases hU : chkRules l = 0
      · obtain ⟨V, hC, hlv⟩ := valid_of hE hs
        have hn := shortRu_len9 h1
        have hnl := V.most
        have hru : ∀ j, j < l.length → chkRule (l.getD j ru0).1 (l.getD j ru0).2.1 (l.getD j ru0).2.2 = 0 := fun k hk => by
          rw [← ruErr_at l k hk]
          unfold chkRules at hU
          split at hU
          · cases hU
          · exact fst0_zero _ hU k
        have hl8 : l.length ≤ 8 := by
          unfold chkRules at hU
          split at hU
          · cases hU
          · omega
        have hT := (rsF_len bs gs l l.length).1
        have hap := apF_is bs gs l hC (by omega) hlv hru l.length (Nat.le_refl _)
        have hE2 := cleaned_ok nm st bs gs (rsF bs gs l l.length).1 hT (by omega) hE hlv
        obtain ⟨V2, hC2, hlv2⟩ := valid_of hE2 hs
        have hap2 := apF_is _ _ l hC2 (by rw [asm_len]; omega) hlv2 hru l.length (Nat.le_refl _)
        rw [rs_again, asm_len, asm_twice] at hap2
        have hm : l.length - 1 ≤ l.length := Nat.sub_le _ _
        have htl : (l.take (l.length - 1)).length = l.length - 1 := by rw [List.length_take]; omega
        have hru3 : ∀ j, j < (l.take (l.length - 1)).length → chkRule ((l.take (l.length - 1)).getD j ru0).1 ((l.take (l.length - 1)).getD j ru0).2.1 ((l.take (l.length - 1)).getD j ru0).2.2 = 0 := fun j hj => by
          have e : (l.take (l.length - 1)).getD j ru0 = l.getD j ru0 := take_getD l _ j (by rw [htl] at hj; exact hj)
          rw [e]
          exact hru j (by omega)
        have hU3 : chkRules (l.take (l.length - 1)) = 0 := by
          unfold chkRules
          rw [if_neg (by omega)]
          apply fst0_all
          intro j hj
          have hj' : j < (l.take (l.length - 1)).length := by simpa [ruErr] using hj
          rw [ruErr_at _ j hj']
          exact hru3 j hj'
        have hap3 := apF_is bs gs (l.take (l.length - 1)) hC (by omega) hlv hru3 (l.take (l.length - 1)).length (Nat.le_refl _)
        rw [htl, rs_pre bs gs (l.take (l.length - 1)) l (l.length - 1) (fun j hj => take_getD l _ j hj)] at hap3
        have CR := hd (fun (W : World) (lv gv : Value) (h : Rd W W.heap.size lv bs.length (flc bs)) (h' : Rd W W.heap.size gv gs.length (spc gs)) => show Calls Tryz.prog 8 #[.agg #[.string nm, .int .i64 st, lv, gv]] W (fun e w' => e = .returned (.int .i64 0) ∧ Below W.heap.size W w') from (refRec_any nm st lv gv bs gs W h h' hs).mono fun e w' ⟨he, hb⟩ => ⟨by rw [he, hE], hb⟩)
        have CC := hd (fun (W : World) (lv gv : Value) (h : Rd W W.heap.size lv (asmK bs (rsF bs gs l l.length).1 bs.length).length (flc (asmK bs (rsF bs gs l l.length).1 bs.length))) (h' : Rd W W.heap.size gv (strF ((rsF bs gs l l.length).1.map (!·)) bs.length).length (spc (strF ((rsF bs gs l l.length).1.map (!·)) bs.length))) => show Calls Tryz.prog 8 #[.agg #[.string nm, .int .i64 st, lv, gv]] W (fun e w' => e = .returned (.int .i64 0) ∧ Below W.heap.size W w') from (refRec_any nm st lv gv _ _ W h h' hs).mono fun e w' ⟨he, hb⟩ => ⟨by rw [he, hE2], hb⟩)
        have CU := hd (fun (W : World) (rv : Value) (h : Rd W W.heap.size rv l.length (ruc l)) => show Calls Tryz.prog 9 #[rv] W (fun e w' => e = .returned (.int .i64 0) ∧ Below W.heap.size W w') from (refRules_any rv l W h).mono fun e w' ⟨he, hb⟩ => ⟨by rw [he, hU], hb⟩)
        have GH := hd (fun (W : World) (lv gv rv : Value) (h : Rd W W.heap.size lv bs.length (flc bs)) (h' : Rd W W.heap.size gv gs.length (spc gs)) (h'' : Rd W W.heap.size rv l.length (ruc l)) => show Calls Tryz.prog 10 #[.agg #[.string nm, .int .i64 st, lv, gv], rv] W (GkR (rsF bs gs l l.length).2 W) from (reasons_ok nm st lv gv rv bs gs l W h h' h'' V hU).mono fun e w' ⟨xv, he, q, hb⟩ => by
          rw [hap] at q
          exact ⟨xv, he, rd_of_own q, hb⟩)
        have GC := hd (fun (W : World) (lv gv rv : Value) (h : Rd W W.heap.size lv bs.length (flc bs)) (h' : Rd W W.heap.size gv gs.length (spc gs)) (h'' : Rd W W.heap.size rv l.length (ruc l)) => show Calls Tryz.prog 13 #[.agg #[.string nm, .int .i64 st, lv, gv], rv] W (GkC nm st (asmK bs (rsF bs gs l l.length).1 bs.length) (strF ((rsF bs gs l l.length).1.map (!·)) bs.length) W) from (clean_ok nm st lv gv rv bs gs l W h h' h'' V hU).mono fun e w' ⟨lv', gv', he, q1, q2, hb⟩ => by
          rw [hap] at q1 q2
          exact ⟨lv', gv', he, rd_of_own q1, rd_of_own q2, full_own q1, full_own q2, hb⟩)
        have GF := hd (fun (W : World) (lv gv rv : Value) (h : Rd W W.heap.size lv bs.length (flc bs)) (h' : Rd W W.heap.size gv gs.length (spc gs)) (h'' : Rd W W.heap.size rv (l.length - 1) (ruc (l.take (l.length - 1)))) => show Calls Tryz.prog 10 #[.agg #[.string nm, .int .i64 st, lv, gv], rv] W (GkR (rsF bs gs l (l.length - 1)).2 W) from (reasons_ok nm st lv gv rv bs gs (l.take (l.length - 1)) W h h' (by rw [htl]; exact h'') V hU3).mono fun e w' ⟨xv, he, q, hb⟩ => by
          rw [htl, hap3] at q
          exact ⟨xv, he, rd_of_own q, hb⟩)
        have GC2 := hd (fun (W : World) (lv gv rv : Value) (h : Rd W W.heap.size lv (asmK bs (rsF bs gs l l.length).1 bs.length).length (flc (asmK bs (rsF bs gs l l.length).1 bs.length))) (h' : Rd W W.heap.size gv (strF ((rsF bs gs l l.length).1.map (!·)) bs.length).length (spc (strF ((rsF bs gs l l.length).1.map (!·)) bs.length))) (h'' : Rd W W.heap.size rv l.length (ruc l)) => show Calls Tryz.prog 13 #[.agg #[.string nm, .int .i64 st, lv, gv], rv] W (GkC nm st (asmK bs (rsF bs gs l l.length).1 bs.length) (strF ((rsF bs gs l l.length).1.map (!·)) bs.length) W) from (clean_ok nm st lv gv rv _ _ l W h h' h'' V2 hU).mono fun e w' ⟨lv', gv', he, q1, q2, hb⟩ => by
          rw [hap2] at q1 q2
          exact ⟨lv', gv', he, rd_of_own q1, rd_of_own q2, full_own q1, full_own q2, hb⟩)
        have GH2 := hd (fun (W : World) (lv gv rv : Value) (h : Rd W W.heap.size lv (asmK bs (rsF bs gs l l.length).1 bs.length).length (flc (asmK bs (rsF bs gs l l.length).1 bs.length))) (h' : Rd W W.heap.size gv (strF ((rsF bs gs l l.length).1.map (!·)) bs.length).length (spc (strF ((rsF bs gs l l.length).1.map (!·)) bs.length))) (h'' : Rd W W.heap.size rv l.length (ruc l)) => show Calls Tryz.prog 10 #[.agg #[.string nm, .int .i64 st, lv, gv], rv] W (GkR (List.replicate bs.length 0) W) from (reasons_ok nm st lv gv rv _ _ l W h h' h'' V2 hU).mono fun e w' ⟨xv, he, q, hb⟩ => by
          rw [hap2] at q
          exact ⟨xv, he, rd_of_own q, hb⟩)
        have hf4 := str_few ((rsF bs gs l l.length).1.map (!·)) bs.length (by omega)
        have hlc := asm_len bs (rsF bs gs l l.length).1
        have HP := hd (fun i hi => keeps_hp bs gs l l.length hlv i hi)
        have HK := hd (fun i hi hg q hq => keeps_hk bs gs l hru i hi hg q hq)
        have HE : Hid (l = [] → sameF feqL 0 (asmK bs (rsF bs gs l l.length).1 bs.length) bs = true ∧ sameF (fun x y : Int × Int => x == y) (0, 0) (strF ((rsF bs gs l l.length).1.map (!·)) bs.length) gs = true) := hd (fun e => by
          have := keeps_he bs gs l nm st V hC hlv
          rw [show l.length = 0 by rw [e]; rfl]
          exact this)
        have HF := hd (fun i hi => keeps_hf bs gs l (l.length - 1) rfl i hi)
        have HLC := hd (same_lev (asmK bs (rsF bs gs l l.length).1 bs.length) hlv2)
        exact keeps_walk HA nm st A A2 A3 c c2 c3 bs gs l (l.length - 1) _ _ _ _ _ w (hd hl) (hd hg) (hd hr) (hd fl) (hd fg) (hd h1) (hd ⟨by omega, by omega, by omega, by rw [hlc]; omega, by omega⟩) CR CC CU GH GC GF GC2 GH2
          (hd ⟨(rsF_len bs gs l l.length).2, hlc, by simp⟩) (hd (rsF_len bs gs l (l.length - 1)).2) (hd (fun e => by have : l.length ≠ 0 := fun h => e (List.length_eq_zero_iff.1 h); omega)) HLC HP (hd (fun j hj => hlv2 j (by rw [hlc]; exact hj))) HK HE HF
      · exact keeps_long3 HA nm st A A2 A3 c c2 c3 bs gs l w (hd hl) (hd hg) (hd hr) hs (hd h1) (hd (by simpa using hE)) (hd (by simpa using hU))
    · exact keeps_long2 HA nm st A A2 A3 c c2 c3 bs gs l w (hd hl) (hd hg) (hd hr) hs (hd h1) (hd (by simpa using hE))
end Go.Proofs.YtfmmmpmdnfpofaaGreatDoor

namespace Go.Proofs.YtfmmmpmdnfpofaaGreatDoor
open Go Go.ChangeShapes Go.WideShapes Go.ChangeAt Go.RowKit Go.Joins
open Go.ChangeMaps (open_string)
set_option linter.constructorNameAsVariable false

set_option maxRecDepth 1000000 in
/-- The start that the door's own run leaves meets the row's condition on the listed variables. -/
theorem gaugeKeeps_met (os : Os) (args : Array Value) : laidMetH Tryz.prog Rows.gaugeKeepsRow.laid ((World.doorLaid Tryz.prog 24 os).forCall (fun _ _ => 0) ⟨#[], args, []⟩).memory :=
  laidMetH_of_parts3 (fuel := 8) (laidMet_of_run' 8 (by kernel_rfl) (by kernel_rfl)) (by kernel_rfl) (by kernel_rfl)

set_option maxRecDepth 1000000 in
theorem gaugeKeeps_lifted (os : Os) (started : os.Started) (H : Type) (enc : TypeId × Value → H) :
    ReturnsInHanded {} Tryz.checked os 3 .any (fun w args => (Rows.gaugeKeepsSpec.pre enc Tryz.prog Tryz.f3 [] false w args ∧ laidMetH Tryz.prog Rows.gaugeKeepsRow.laid w) ∧ sizedMet enc Tryz.prog Tryz.f3 (OpenSpec.ofChange Rows.gaugeKeepsSpec) false w args)
      (Rows.gaugeKeepsSpec.post enc Tryz.prog Tryz.f3 false true false false) := by
  refine returnsInHanded_of_change_and (C := Tryz.checked) (X := fun w _ => laidMetH Tryz.prog Rows.gaugeKeepsRow.laid w) (fun _ _ _ hh h => h.of_heap hh) own started (by kernel_rfl) Tryz.func3
    (ChangeSpec.witness_shaped (enc := enc) (C := Tryz.checked) (os := os) (X := fun w _ => laidMetH Tryz.prog Rows.gaugeKeepsRow.laid w) false (World.doorLaid Tryz.prog 24 os) #[.agg #[.string ⟨#[]⟩, .int .i64 0, .slice none 0 0, .slice none 0 0], .slice none 0 0] 8 rfl (World.shaped_of_RefB (by kernel_rfl) (by kernel_rfl)) (by kernel_rfl) (by kernel_rfl) (by kernel_rfl) (gaugeKeeps_met os _)) ?_
  intro W base args ds gs before hval0 hW _ hsz hL _
  have hval : ∀ (j : Nat) t v, Tryz.f3.params[j]? = some t → args[j]? = some v → Value.okWide Tryz.prog W .any base t v := hval0
  have hW' := hW
  obtain ⟨p, q, hA0, hV, rfl, hfz, hnd⟩ := hW
  have hA : DataW.TrodAll enc Tryz.prog W 0 (fun _ => true) true Tryz.f3.params.toList args.toList ds p := hA0
  rw [Tryz.params3] at hA hval
  obtain ⟨rfl, rfl⟩ := trodVars_none hV
  obtain ⟨v0, v1, d0, d1, p0, p1, rfl, rfl, rfl, h0, h1⟩ := trodAll_two hA
  obtain ⟨c0, c1, c2, c3, y0, y1, y2, y3, m, rfl, rfl, rfl, hy0, hy1, hy2, hy3⟩ := open_agg4 Tryz.underlying25 (by kernel_rfl) (show Tryz.prog.cellsOf 25 = 4 by kernel_rfl) (hval 0 25 v0 rfl rfl) h0
  obtain ⟨nm, k0, -, hs⟩ := DataW.trod_string Tryz.underlying9 hy0
  obtain ⟨st, k1, -⟩ := DataW.trod_int Tryz.underlying3 hy1
  obtain ⟨bs, hl, fl⟩ := open_levels hy2
  obtain ⟨gs, hg, fg⟩ := open_gaps hy3
  obtain ⟨A5, n5, c5, rfl⟩ := okWide_slice Tryz.underlying26 (hval 1 26 v1 rfl rfl)
  obtain ⟨fuel, hf⟩ := h1
  rw [show (Value.slice A5 n5 c5).cells.toList = [Value.slice A5 n5 c5] by simp [Value.cells]] at hf
  obtain ⟨l, hr⟩ := open_rules hf
  simp at k0 k1
  subst k0 k1
  refine (keeps_all (hd awake_any) nm st c2 c3 _ bs gs l W hl hg hr fl fg hs).mono ?_
  rintro e W' ⟨rfl, hB⟩
  exact ⟨_, rfl, law_post rfl rfl rfl rfl rfl (fun t ht => by
    have hm : t ∈ [25, 26] := by simpa [Tryz.params3] using ht
    have hall : ([25, 26].all fun u => Tryz.prog.readableRec u && decide (u < Tryz.prog.types.size)) = true := by kernel_rfl
    simpa using List.all_eq_true.1 hall t hm) hW' hB⟩

set_option maxRecDepth 1000000 in
theorem gaugeKeeps_holds : Rows.GaugeKeepsSaid :=
  OpenClaim.holds_of_wide 3 Tryz.f3 rfl rfl rfl rfl rfl rfl rfl ⟨rfl, rfl, rfl, rfl, rfl⟩ rfl rfl rfl rfl rfl (by kernel_rfl) Tryz.func3 (by kernel_rfl)
    (of_decide_eq_true (by kernel_rfl)) (by unfold Func.isWrapper; first | (rw [if_pos (by decide +kernel)]; kernel_rfl) | (rw [if_neg (by decide +kernel)]; exact ⟨rfl, rfl⟩))
    (fun os started H enc _ => gaugeKeeps_lifted os started H enc)

set_option maxRecDepth 1000000 in
theorem gaugeKeeps_card : Rows.GaugeKeepsCardSaid :=
  Claim7.holds_tied_plain_at .later [] [.data, .data, .data] true (true, "158f67b762c23d64691b2c36bf44731676bbd3acb21e13d2f10fa83280cb659f") false
    gaugeKeeps_holds (fun _ h => by cases h) (by kernel_rfl) (fun _ h => by cases h) gaugeKeeps_row_tie rfl ⟨rfl, rfl⟩ (by kernel_rfl) rfl
    (fun f fn hf hfn => by
      obtain rfl : f = 3 := Option.some.inj ((show Tryz.prog.funcNamed "tideway/tidewaylaw01.GaugeKeeps" = some 3 by kernel_rfl).symm.trans hf) |>.symm
      obtain rfl : fn = Tryz.f3 := (Option.some.inj (Tryz.func3.symm.trans hfn)).symm
      exact ⟨by kernel_rfl, fun j t ht => by
        rw [Tryz.params3] at ht
        have hm : t ∈ [25, 26] := by simpa using Array.mem_of_getElem? ht
        have hall : ([25, 26].all fun u => !Tryz.prog.wantsStandIn u) = true := by kernel_rfl
        exact (show Tryz.prog.wantsStandIn t = false by simpa using List.all_eq_true.1 hall t hm)⟩)
    (by kernel_rfl)
end Go.Proofs.YtfmmmpmdnfpofaaGreatDoor
