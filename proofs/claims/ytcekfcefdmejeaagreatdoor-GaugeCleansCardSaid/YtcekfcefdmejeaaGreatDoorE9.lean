/-
  GaugeCleans (P1.3): for every record, list of rules and number, Reasons, Clean and Fill answer as the document says. Conditions: the row's own (the listed library tables as the program's text lays them, tied by the card).
-/
import Derived.Test.YtcekfcefdmejeaaGreatDoorRows
import Derived.Test.YtcekfcefdmejeaaGreatDoorCards
import Derived.Test.YtcekfcefdmejeaaGreatDoorTie
import Derived.Test.YtcekfcefdmejeaaGreatDoorRow
import Derived.SevenTiedAt
import Derived.Test.YtcekfcefdmejeaaGreatDoorOpm
import Derived.Test.YtcekfcefdmejeaaGreatDoorE8
import Derived.Test.YtcekfcefdmejeaaGreatDoorMO
import Derived.Test.YtcekfcefdmejeaaGreatDoorM3
namespace Go.Proofs.YtcekfcefdmejeaaGreatDoor
open Go.RowKit
attribute [local go_sem] Oper.semAt_some

theorem shortRu_len9 {l : List Ru} (h : shortRu l = true) : l.length ≤ 9 := by
  unfold shortRu at h
  simp only [Bool.and_eq_true, decide_eq_true_eq] at h
  exact h.2
theorem sh_lens9 {s n m : Nat} (h : shortR s n m = true) : n ≤ 4097 ∧ m ≤ 2049 := by
  unfold shortR at h
  simp only [Bool.and_eq_true, Bool.or_eq_true, decide_eq_true_eq] at h
  omega
theorem fst_two9 (a b : Int) : fst0 [a, b] = if a = 0 then b else a := by
  by_cases h : a = 0
  · simp only [fst0, h, if_true]
    split
    · rename_i h2; exact h2.symm
    · rfl
  · simp [fst0, h]
theorem lev_zero : chkLev 0 = 0 := by decide +kernel
theorem asm_lev (bs : List Nat) (T : List Bool) (hl : ∀ i, i < bs.length → chkLev (bs.getD i 0) = 0) (j : Nat) (hj : j < bs.length) : chkLev ((asmK bs T bs.length).getD j 0) = 0 := by
  rw [asmK_at bs T j hj]
  split
  · exact hl j hj
  · exact lev_zero
theorem setK_at (ls : List Nat) (f k v j : Nat) (hj : j < ls.length) : (setK ls f k v).getD j 0 = if f ≤ j ∧ j < k then v else ls.getD j 0 := by
  unfold setK
  rw [List.getD_eq_getElem?_getD, List.getElem?_map, List.getElem?_range hj]
  rfl
theorem lev_any (bs : List Nat) (hl : ∀ i, i < bs.length → chkLev (bs.getD i 0) = 0) (i : Nat) : chkLev (bs.getD i 0) = 0 := by
  by_cases h : i < bs.length
  · exact hl i h
  · rw [getD_off bs i 0 (by omega)]; exact lev_zero
theorem fill_lev (bs : List Nat) (gs : List (Int × Int)) (n : Int) (hl : ∀ i, i < bs.length → chkLev (bs.getD i 0) = 0) : ∀ k j, j < bs.length → chkLev ((fillF bs gs n k).lev.getD j 0) = 0
  | 0, j, hj => hl j hj
  | k + 1, j, hj => by
    have ih := fill_lev bs gs n hl k j hj
    have hlen := (fillF_len bs gs n k).1
    unfold fillF fStep
    split
    · exact ih
    · simp only
      rw [setK_at _ _ _ _ j (by rw [hlen]; exact hj)]
      split
      · exact lev_any bs hl _
      · exact ih
theorem same_lev (l : List Nat) (h : ∀ j, j < l.length → chkLev (l.getD j 0) = 0) : sameF feqL 0 l l = true := sameF_yes feqL 0 l l rfl (fun j hj => feq_self (h j hj))

set_option maxRecDepth 1000000 in
set_option maxHeartbeats 4000000 in
theorem cleans_long (HA : Hid Awake) (nm : ByteArray) (st n : Int) (A A2 A3 : Option Addr) (c c2 c3 : Nat) (bs : List Nat) (gs : List (Int × Int)) (l : List Ru) (w : World) (HU : Hid (Rd w w.heap.size (.slice A3 l.length c3) l.length (ruc l))) (h : shortR nm.size bs.length gs.length = false ∨ shortRu l = false) :
    Calls Tryz.prog 3 #[.agg #[.string nm, .int .i64 st, .slice A bs.length c, .slice A2 gs.length c2], .slice A3 l.length c3, .int .i64 n] w fun e w' => e = .returned (.bool true) ∧ Below w.heap.size w w' := by
  have HQ := hd (blk_new w #[.string nm, .int .i64 st, .slice A bs.length c, .slice A2 gs.length c2] 25)
  have HB := hd ((Below.refl w.heap.size w).alloc (Nat.le_refl _) (Obj.cells #[.string nm, .int .i64 st, .slice A bs.length c, .slice A2 gs.length c2] 25))
  have RU := hd ((HU.out.below HB.out (Nat.le_refl _)).mono HB.out.size)
  cases hS : shortR nm.size bs.length gs.length
  · have S1 := hd hS
    clear h hS
    go_enter Tryz.func3, Tryz.ntmps3
    go_wp2_with fail
    refine (HA.out _).mono ?_
    rintro e w1 ⟨rfl, hb⟩
    replace HQ := (hb.block _ (blk_lt HQ.out)).trans HQ.out
    replace HB := hd (HB.out.trans (hb.mono (HB.out.size)))
    have k0 := blk_cell HQ 0
    have k1 := blk_cell HQ 1
    have k2 := blk_cell HQ 2
    have k3 := blk_cell HQ 3
    simp at k0 k1 k2 k3
    clear hb HQ
    go_wp2_with fail
    refine (short_any nm st A A2 bs.length c gs.length c2 _).mono ?_
    rw [S1.out]
    rintro e w2 ⟨rfl, hb⟩
    replace HB := hd (HB.out.trans (hb.mono (HB.out.size)))
    clear hb k0 k1 k2 k3
    go_wp2_with fail
    refine (HA.out _).mono ?_
    rintro e w3 ⟨rfl, hb⟩
    replace HB := hd (HB.out.trans (hb.mono (HB.out.size)))
    clear hb
    go_wp2_with fail
    go_returns
    exact ⟨rfl, HB.out⟩
  · have S1 := hd hS
    have S2 := hd (show shortRu l = false from h.resolve_left (by rw [hS]; simp))
    clear h hS
    go_enter Tryz.func3, Tryz.ntmps3
    go_wp2_with fail
    refine (HA.out _).mono ?_
    rintro e w1 ⟨rfl, hb⟩
    replace HQ := (hb.block _ (blk_lt HQ.out)).trans HQ.out
    replace HB := hd (HB.out.trans (hb.mono (HB.out.size)))
    replace RU := hd ((RU.out.below hb (Nat.le_refl _)).mono hb.size)
    have k0 := blk_cell HQ 0
    have k1 := blk_cell HQ 1
    have k2 := blk_cell HQ 2
    have k3 := blk_cell HQ 3
    simp at k0 k1 k2 k3
    clear hb HQ
    go_wp2_with fail
    refine (short_any nm st A A2 bs.length c gs.length c2 _).mono ?_
    rw [S1.out]
    rintro e w2 ⟨rfl, hb⟩
    replace HB := hd (HB.out.trans (hb.mono (HB.out.size)))
    replace RU := hd ((RU.out.below hb (Nat.le_refl _)).mono hb.size)
    clear hb k0 k1 k2 k3
    go_wp2_with fail
    refine (shortRules_any _ l _ RU.out).mono ?_
    rw [S2.out]
    rintro e w3 ⟨rfl, rfl⟩
    go_wp2_with fail
    refine (HA.out _).mono ?_
    rintro e w4 ⟨rfl, hb⟩
    replace HB := hd (HB.out.trans (hb.mono (HB.out.size)))
    clear hb
    go_wp2_with fail
    go_returns
    exact ⟨rfl, HB.out⟩

theorem cleans_all (HA : Hid Awake) (nm : ByteArray) (st n : Int) (lv gv rv : Value) (bs : List Nat) (gs : List (Int × Int)) (l : List Ru) (w : World) (hl : Rd w w.heap.size lv bs.length (flc bs)) (hg : Rd w w.heap.size gv gs.length (spc gs)) (hr : Rd w w.heap.size rv l.length (ruc l)) (fl : Full lv) (fg : Full gv) (hs : nm.size ≤ maxLen) :
    Calls Tryz.prog 3 #[.agg #[.string nm, .int .i64 st, lv, gv], rv, .int .i64 n] w fun e w' => e = .returned (.bool true) ∧ Below w.heap.size w w' := by
  obtain ⟨A, c, rfl, -⟩ := id hl
  obtain ⟨A2, c2, rfl, -⟩ := id hg
  obtain ⟨A3, c3, rfl, -⟩ := id hr
  cases h1 : shortR nm.size bs.length gs.length
  · exact cleans_long HA nm st n A A2 A3 c c2 c3 bs gs l w (hd hr) (.inl h1)
  · cases h2 : shortRu l
    · exact cleans_long HA nm st n A A2 A3 c c2 c3 bs gs l w (hd hr) (.inr h2)
    · have hn := sh_lens9 h1
      have hn2 := shortRu_len9 h2
      have hA : A = none → bs.length = 0 ∧ c = 0 := fun e => by
        rcases fl with h | ⟨ad, n', c', h⟩
        · injection h with e1 e2 e3; exact ⟨e2, e3⟩
        · injection h with e1 e2 e3; rw [e] at e1; cases e1
      have CR := hd (fun (W : World) (lv gv : Value) (h : Rd W W.heap.size lv bs.length (flc bs)) (h' : Rd W W.heap.size gv gs.length (spc gs)) => refRec_any nm st lv gv bs gs W h h' hs)
      have CU := hd (fun (W : World) (rv : Value) (h : Rd W W.heap.size rv l.length (ruc l)) => refRules_any rv l W h)
      have HN := hd (show bs.length ≤ 100000 ∧ gs.length ≤ 100000 ∧ l.length ≤ 100000 by omega)
      have fb : ∀ E, fst0 [chkRec nm st bs gs, rng n 0 4096] = E → (E != 0) = true → Hid (∀ (W : World) (lv gv : Value) (h : Rd W W.heap.size lv bs.length (flc bs)) (h' : Rd W W.heap.size gv gs.length (spc gs)), Calls Tryz.prog 14 #[.agg #[.string nm, .int .i64 st, lv, gv], .int .i64 n] W fun e w' => e = .returned (.tuple #[.agg #[.string ⟨#[]⟩, .int .i64 0, .slice none 0 0, .slice none 0 0], .slice none 0 0, .int .i64 E]) ∧ Below W.heap.size W w') := fun E hE h0 => hd (fun (W : World) (lv gv : Value) (h : Rd W W.heap.size lv bs.length (flc bs)) (h' : Rd W W.heap.size gv gs.length (spc gs)) => by
        obtain ⟨A, c, rfl, -⟩ := id h
        obtain ⟨A2, c2, rfl, -⟩ := id h'
        exact fill_bad nm st A A2 c c2 bs gs n E W (hd h) (hd h') hs hE h0)
      have rb : ∀ E, fst0 [chkRec nm st bs gs, chkRules l] = E → (E != 0) = true → Hid (∀ (W : World) (lv gv rv : Value) (h : Rd W W.heap.size lv bs.length (flc bs)) (h' : Rd W W.heap.size gv gs.length (spc gs)) (h'' : Rd W W.heap.size rv l.length (ruc l)), Calls Tryz.prog 10 #[.agg #[.string nm, .int .i64 st, lv, gv], rv] W (GotR [] E W)) := fun E hE h0 => hd (fun (W : World) (lv gv rv : Value) (h : Rd W W.heap.size lv bs.length (flc bs)) (h' : Rd W W.heap.size gv gs.length (spc gs)) (h'' : Rd W W.heap.size rv l.length (ruc l)) => by
        obtain ⟨A, c, rfl, -⟩ := id h
        obtain ⟨A2, c2, rfl, -⟩ := id h'
        obtain ⟨A3, c3, rfl, -⟩ := id h''
        exact (reasons_bad nm st A A2 A3 c c2 c3 bs gs l E W (hd h) (hd h') (hd h'') hs hE h0).mono fun e w' ⟨he, hb⟩ => ⟨_, he, Rd.nil _ _, hb⟩)
      have cb : ∀ E, fst0 [chkRec nm st bs gs, chkRules l] = E → (E != 0) = true → Hid (∀ (W : World) (lv gv rv : Value) (h : Rd W W.heap.size lv bs.length (flc bs)) (h' : Rd W W.heap.size gv gs.length (spc gs)) (h'' : Rd W W.heap.size rv l.length (ruc l)), Calls Tryz.prog 13 #[.agg #[.string nm, .int .i64 st, lv, gv], rv] W fun e w' => e = .returned (.tuple #[.agg #[.string ⟨#[]⟩, .int .i64 0, .slice none 0 0, .slice none 0 0], .int .i64 E]) ∧ Below W.heap.size W w') := fun E hE h0 => hd (fun (W : World) (lv gv rv : Value) (h : Rd W W.heap.size lv bs.length (flc bs)) (h' : Rd W W.heap.size gv gs.length (spc gs)) (h'' : Rd W W.heap.size rv l.length (ruc l)) => by
        obtain ⟨A, c, rfl, -⟩ := id h
        obtain ⟨A2, c2, rfl, -⟩ := id h'
        obtain ⟨A3, c3, rfl, -⟩ := id h''
        exact clean_bad nm st A A2 A3 c c2 c3 bs gs l E W (hd h) (hd h') (hd h'') hs hE h0)
      by_cases hE : chkRec nm st bs gs = 0
      · obtain ⟨V, hC, hlv⟩ := valid_of hE hs
        have GF : 0 ≤ n ∧ n ≤ 4096 → Hid (∀ (W : World) (lv gv : Value) (h : Rd W W.heap.size lv bs.length (flc bs)) (h' : Rd W W.heap.size gv gs.length (spc gs)), Calls Tryz.prog 14 #[.agg #[.string nm, .int .i64 st, lv, gv], .int .i64 n] W (GotF nm st (fillF bs gs n gs.length).lev (fillF bs gs n gs.length).gap (fillF bs gs n gs.length).fil W)) := fun hnn => hd (fun (W : World) (lv gv : Value) (h : Rd W W.heap.size lv bs.length (flc bs)) (h' : Rd W W.heap.size gv gs.length (spc gs)) => (fill_any nm st lv gv bs gs n W h h' V hnn).mono fun e w' ⟨LV, GV, FV, he, q1, q2, q3, hb⟩ => by
          have hlen := (fillF_len bs gs n gs.length).1
          exact ⟨LV, GV, FV, he, by rw [hlen]; exact rd_of_own q1, rd_of_own q2, rd_of_own q3, hb⟩)
        have RF : 0 ≤ n ∧ n ≤ 4096 → Hid (∀ (W : World), Rd W W.heap.size (.slice A bs.length c) bs.length (flc bs) → Rd W W.heap.size (.slice A2 gs.length c2) gs.length (spc gs) → Calls Tryz.prog 21 #[.agg #[.string nm, .int .i64 st, .slice A bs.length c, .slice A2 gs.length c2], .int .i64 n] W (OwnsRF W.heap.size nm st (fillF bs gs n gs.length).lev (fillF bs gs n gs.length).gap (fillF bs gs n gs.length).fil W)) := fun hnn => hd (fun W h h' => (refFill_any nm st A _ bs c gs n W h h' V hnn hA).mono fun e w' ⟨LV, GV, FV, he, q1, q2, q3, hb⟩ => by
          have hlen := (fillF_len bs gs n gs.length).1
          exact ⟨LV, GV, FV, he, by rw [hlen]; exact q1, q2, q3, hb⟩)
        have HLF : Hid (sameF feqL 0 (fillF bs gs n gs.length).lev (fillF bs gs n gs.length).lev = true) := hd (same_lev _ (fun j hj => fill_lev bs gs n hlv gs.length j (by rw [(fillF_len bs gs n gs.length).1] at hj; exact hj)))
        by_cases hU : chkRules l = 0
        · have hru : ∀ j, j < l.length → chkRule (l.getD j ru0).1 (l.getD j ru0).2.1 (l.getD j ru0).2.2 = 0 := fun k hk => by
            rw [← ruErr_at l k hk]
            unfold chkRules at hU
            split at hU
            · cases hU
            · exact fst0_zero _ hU k
          have hap := apF_is bs gs l hC (by omega) hlv hru l.length (Nat.le_refl _)
          have GH := hd (fun (W : World) (lv gv rv : Value) (h : Rd W W.heap.size lv bs.length (flc bs)) (h' : Rd W W.heap.size gv gs.length (spc gs)) (h'' : Rd W W.heap.size rv l.length (ruc l)) => show Calls Tryz.prog 10 #[.agg #[.string nm, .int .i64 st, lv, gv], rv] W (GotR (rsF bs gs l l.length).2 0 W) from (reasons_ok nm st lv gv rv bs gs l W h h' h'' V hU).mono fun e w' ⟨xv, he, q, hb⟩ => by
            rw [hap] at q
            exact ⟨xv, he, rd_of_own q, hb⟩)
          have GC := hd (fun (W : World) (lv gv rv : Value) (h : Rd W W.heap.size lv bs.length (flc bs)) (h' : Rd W W.heap.size gv gs.length (spc gs)) (h'' : Rd W W.heap.size rv l.length (ruc l)) => show Calls Tryz.prog 13 #[.agg #[.string nm, .int .i64 st, lv, gv], rv] W (GotC nm st (asmK bs (rsF bs gs l l.length).1 bs.length) (strF ((rsF bs gs l l.length).1.map (!·)) bs.length) W) from (clean_ok nm st lv gv rv bs gs l W h h' h'' V hU).mono fun e w' ⟨lv', gv', he, q1, q2, hb⟩ => by
            rw [hap] at q1 q2
            exact ⟨lv', gv', he, rd_of_own q1, rd_of_own q2, hb⟩)
          have RH := hd (fun (W : World) (lv gv rv : Value) (h : Rd W W.heap.size lv bs.length (flc bs)) (h' : Rd W W.heap.size gv gs.length (spc gs)) (h'' : Rd W W.heap.size rv l.length (ruc l)) => refReasons_any nm st lv gv rv bs gs l W h h' h'' HN.out.1 HN.out.2.2 hlv hru)
          have RC := hd (fun (W : World) (lv gv rv : Value) (h : Rd W W.heap.size lv bs.length (flc bs)) (h' : Rd W W.heap.size gv gs.length (spc gs)) (h'' : Rd W W.heap.size rv l.length (ruc l)) => refClean_any nm st lv gv rv bs gs l W h h' h'' HN.out.1 HN.out.2.2 hlv hru)
          have HLC := hd (same_lev (asmK bs (rsF bs gs l l.length).1 bs.length) (fun j hj => asm_lev bs _ hlv j (by rw [asmK_len] at hj; exact hj)))
          have hx1 : fst0 [chkRec nm st bs gs, chkRules l] = 0 := by rw [fst_two9, if_pos hE]; exact hU
          by_cases hw : rng n 0 4096 = 0
          · have hnn : 0 ≤ n ∧ n ≤ 4096 := by
              unfold rng at hw
              split at hw
              · assumption
              · cases hw
            exact cleans_tt HA nm st n A A2 A3 c c2 c3 bs gs l _ _ _ _ _ _ _ _ 0 0 w (hd hl) (hd hg) (hd hr) (hd fl) (hd fg) (hd h1) (hd h2) HN CR CU (hd hx1) rfl (hd (by rw [fst_two9, if_pos hE]; exact hw)) rfl GH GC RH RC HLC (GF hnn) (RF hnn) HLF
          · have h3 : fst0 [chkRec nm st bs gs, rng n 0 4096] = rng n 0 4096 := by rw [fst_two9, if_pos hE]
            exact cleans_tf HA nm st n A A2 A3 c c2 c3 bs gs l _ _ _ _ _ 0 _ w (hd hl) (hd hg) (hd hr) (hd fl) (hd fg) (hd h1) (hd h2) HN CR CU (hd hx1) rfl (hd h3) (by simpa using hw) GH GC RH RC HLC (fb _ h3 (by simpa using hw)) (by simpa using hw)
        · have h4 : fst0 [chkRec nm st bs gs, chkRules l] = chkRules l := by rw [fst_two9, if_pos hE]
          have hu1 : (chkRules l != 0) = true := by simpa using hU
          by_cases hw : rng n 0 4096 = 0
          · have hnn : 0 ≤ n ∧ n ≤ 4096 := by
              unfold rng at hw
              split at hw
              · assumption
              · cases hw
            exact cleans_ft HA nm st n A A2 A3 c c2 c3 bs gs l _ _ _ _ _ _ 0 w (hd hl) (hd hg) (hd hr) (hd fl) (hd fg) (hd h1) (hd h2) HN CR CU (hd h4) (by simpa using hU) (hd (by rw [fst_two9, if_pos hE]; exact hw)) rfl (rb _ h4 hu1) (cb _ h4 hu1) hu1 (GF hnn) (RF hnn) HLF
          · have h3 : fst0 [chkRec nm st bs gs, rng n 0 4096] = rng n 0 4096 := by rw [fst_two9, if_pos hE]
            exact cleans_ff HA nm st n A A2 A3 c c2 c3 bs gs l _ _ _ _ w (hd hl) (hd hg) (hd hr) (hd fl) (hd fg) (hd h1) (hd h2) HN CR CU (hd h4) (by simpa using hU) (hd h3) (by simpa using hw) (rb _ h4 hu1) (cb _ h4 hu1) hu1 (fb _ h3 (by simpa using hw)) (by simpa using hw)
      · have h4 : fst0 [chkRec nm st bs gs, chkRules l] = chkRec nm st bs gs := by rw [fst_two9, if_neg hE]
        have h3 : fst0 [chkRec nm st bs gs, rng n 0 4096] = chkRec nm st bs gs := by rw [fst_two9, if_neg hE]
        have hb : (chkRec nm st bs gs != 0) = true := by simpa using hE
        have he : (chkRec nm st bs gs == 0) = false := by simpa using hE
        exact cleans_ff HA nm st n A A2 A3 c c2 c3 bs gs l _ _ _ _ w (hd hl) (hd hg) (hd hr) (hd fl) (hd fg) (hd h1) (hd h2) HN CR CU (hd h4) he (hd h3) he (rb _ h4 hb) (cb _ h4 hb) hb (fb _ h3 hb) hb
end Go.Proofs.YtcekfcefdmejeaaGreatDoor

namespace Go.Proofs.YtcekfcefdmejeaaGreatDoor
open Go Go.ChangeShapes Go.WideShapes Go.ChangeAt Go.RowKit Go.Joins
open Go.ChangeMaps (open_string)
set_option linter.constructorNameAsVariable false

set_option maxRecDepth 1000000 in
/-- The start that the door's own run leaves meets the row's condition on the listed variables. -/
theorem gaugeCleans_met (os : Os) (args : Array Value) : laidMetH Tryz.prog Rows.gaugeCleansRow.laid ((World.doorLaid Tryz.prog 24 os).forCall (fun _ _ => 0) ⟨#[], args, []⟩).memory :=
  laidMetH_of_parts3 (fuel := 8) (laidMet_of_run' 8 (by kernel_rfl) (by kernel_rfl)) (by kernel_rfl) (by kernel_rfl)

set_option maxRecDepth 1000000 in
theorem gaugeCleans_lifted (os : Os) (started : os.Started) (H : Type) (enc : TypeId × Value → H) :
    ReturnsInHanded {} Tryz.checked os 3 .any (fun w args => (Rows.gaugeCleansSpec.pre enc Tryz.prog Tryz.f3 [] false w args ∧ laidMetH Tryz.prog Rows.gaugeCleansRow.laid w) ∧ sizedMet enc Tryz.prog Tryz.f3 (OpenSpec.ofChange Rows.gaugeCleansSpec) false w args)
      (Rows.gaugeCleansSpec.post enc Tryz.prog Tryz.f3 false true false false) := by
  refine returnsInHanded_of_change_and (C := Tryz.checked) (X := fun w _ => laidMetH Tryz.prog Rows.gaugeCleansRow.laid w) (fun _ _ _ hh h => h.of_heap hh) own started (by kernel_rfl) Tryz.func3
    (ChangeSpec.witness_shaped (enc := enc) (C := Tryz.checked) (os := os) (X := fun w _ => laidMetH Tryz.prog Rows.gaugeCleansRow.laid w) false (World.doorLaid Tryz.prog 24 os) #[.agg #[.string ⟨#[]⟩, .int .i64 0, .slice none 0 0, .slice none 0 0], .slice none 0 0, .int .i64 0] 8 rfl (World.shaped_of_RefB (by kernel_rfl) (by kernel_rfl)) (by kernel_rfl) (by kernel_rfl) (by kernel_rfl) (gaugeCleans_met os _)) ?_
  intro W base args ds gs before hval0 hW _ hsz hL _
  have hval : ∀ (j : Nat) t v, Tryz.f3.params[j]? = some t → args[j]? = some v → Value.okWide Tryz.prog W .any base t v := hval0
  have hW' := hW
  obtain ⟨p, q, hA0, hV, rfl, hfz, hnd⟩ := hW
  have hA : DataW.TrodAll enc Tryz.prog W 0 (fun _ => true) true Tryz.f3.params.toList args.toList ds p := hA0
  rw [Tryz.params3] at hA hval
  obtain ⟨rfl, rfl⟩ := trodVars_none hV
  obtain ⟨v0, v1, v2, d0, d1, d2, p0, p1, p2, rfl, rfl, rfl, h0, h1, h2⟩ := trodAll_three hA
  obtain ⟨c0, c1, c2, c3, y0, y1, y2, y3, m, rfl, rfl, rfl, hy0, hy1, hy2, hy3⟩ := open_agg4 Tryz.underlying25 (by kernel_rfl) (show Tryz.prog.cellsOf 25 = 4 by kernel_rfl) (hval 0 25 v0 rfl rfl) h0
  obtain ⟨nm, k0, -, hs⟩ := DataW.trod_string Tryz.underlying9 hy0
  obtain ⟨st, k1, -⟩ := DataW.trod_int Tryz.underlying3 hy1
  obtain ⟨bs, hl, fl⟩ := open_levels hy2
  obtain ⟨gs, hg, fg⟩ := open_gaps hy3
  obtain ⟨A5, n5, c5, rfl⟩ := okWide_slice Tryz.underlying26 (hval 1 26 v1 rfl rfl)
  obtain ⟨fuel, hf⟩ := h1
  rw [show (Value.slice A5 n5 c5).cells.toList = [Value.slice A5 n5 c5] by simp [Value.cells]] at hf
  obtain ⟨l, hr⟩ := open_rules hf
  obtain ⟨n, rfl, rfl, rfl, -⟩ := open_int Tryz.underlying3 (hval 2 3 v2 rfl rfl) h2
  simp at k0 k1
  subst k0 k1
  refine (cleans_all (hd awake_any) nm st n c2 c3 _ bs gs l W hl hg hr fl fg hs).mono ?_
  rintro e W' ⟨rfl, hB⟩
  exact ⟨_, rfl, law_post rfl rfl rfl rfl rfl (fun t ht => by
    have hm : t ∈ [25, 26, 3] := by simpa [Tryz.params3] using ht
    have hall : ([25, 26, 3].all fun u => Tryz.prog.readableRec u && decide (u < Tryz.prog.types.size)) = true := by kernel_rfl
    simpa using List.all_eq_true.1 hall t hm) hW' hB⟩

set_option maxRecDepth 1000000 in
theorem gaugeCleans_holds : Rows.GaugeCleansSaid :=
  OpenClaim.holds_of_wide 3 Tryz.f3 rfl rfl rfl rfl rfl rfl rfl ⟨rfl, rfl, rfl, rfl, rfl⟩ rfl rfl rfl rfl rfl (by kernel_rfl) Tryz.func3 (by kernel_rfl)
    (of_decide_eq_true (by kernel_rfl)) (by unfold Func.isWrapper; first | (rw [if_pos (by decide +kernel)]; kernel_rfl) | (rw [if_neg (by decide +kernel)]; exact ⟨rfl, rfl⟩))
    (fun os started H enc _ => gaugeCleans_lifted os started H enc)

set_option maxRecDepth 1000000 in
theorem gaugeCleans_card : Rows.GaugeCleansCardSaid :=
  Claim7.holds_tied_plain_at .later [] [.data, .data, .data] true (true, "ed85a31b79f949fb922d680dd2efdd363b6bb0dd79607c435783727d02f07b86") false
    gaugeCleans_holds (fun _ h => by cases h) (by kernel_rfl) (fun _ h => by cases h) gaugeCleans_row_tie rfl ⟨rfl, rfl⟩ (by kernel_rfl) rfl
    (fun f fn hf hfn => by
      obtain rfl : f = 3 := Option.some.inj ((show Tryz.prog.funcNamed "tideway/tidewaylaw01.GaugeCleans" = some 3 by kernel_rfl).symm.trans hf) |>.symm
      obtain rfl : fn = Tryz.f3 := (Option.some.inj (Tryz.func3.symm.trans hfn)).symm
      exact ⟨by kernel_rfl, fun j t ht => by
        rw [Tryz.params3] at ht
        have hm : t ∈ [25, 26, 3] := by simpa using Array.mem_of_getElem? ht
        have hall : ([25, 26, 3].all fun u => !Tryz.prog.wantsStandIn u) = true := by kernel_rfl
        exact (show Tryz.prog.wantsStandIn t = false by simpa using List.all_eq_true.1 hall t hm)⟩)
    (by kernel_rfl)
end Go.Proofs.YtcekfcefdmejeaaGreatDoor
