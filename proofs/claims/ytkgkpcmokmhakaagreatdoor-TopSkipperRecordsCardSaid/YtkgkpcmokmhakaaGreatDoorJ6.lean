/-
  TopSkipperRecords for every input: what is not taken, and what is. Conditions: written at each.
-/
import Derived.Test.YtkgkpcmokmhakaaGreatDoorJ5
import Derived.Test.YtkgkpcmokmhakaaGreatDoorY7
import Derived.Test.YtkgkpcmokmhakaaGreatDoorD1
import Derived.Test.YtkgkpcmokmhakaaGreatDoorSI
import Derived.Test.YtkgkpcmokmhakaaGreatDoorSB
import Derived.Lib.SmallJoins
namespace Go.Proofs.YtkgkpcmokmhakaaGreatDoor
open Go.RowKit Go.Joins
attribute [local go_sem] Oper.semAt_some

set_option maxRecDepth 1000000 in
set_option maxHeartbeats 4000000 in
theorem rec_long1 (nm : ByteArray) (st x0 : Int) (A A2 A3 : Option Addr) (c c2 c3 : Nat) (bs : List Nat) (gs : List (Int × Int)) (l : List Ru) (w : World) (HL : Hid (Rd w w.heap.size (.slice A bs.length c) bs.length (flc bs))) (HG : Hid (Rd w w.heap.size (.slice A2 gs.length c2) gs.length (spc gs))) (HU : Hid (Rd w w.heap.size (.slice A3 l.length c3) l.length (ruc l))) (S1 : Hid (shortR nm.size bs.length gs.length = false)) :
    Calls Tryz.prog 3 #[.agg #[.string nm, .int .i64 st, .slice A bs.length c, .slice A2 gs.length c2], .slice A3 l.length c3, .int .u8 x0] w fun e w' => e = .returned (.bool true) ∧ Below w.heap.size w w' := by
  have hb1 := (Below.refl w.heap.size w).alloc (Nat.le_refl _) (Obj.cells #[.string nm, .int .i64 st, .slice A bs.length c, .slice A2 gs.length c2] 25)
  have HQ := hd (show (w.alloc (Obj.cells #[.string nm, .int .i64 st, .slice A bs.length c, .slice A2 gs.length c2] 25)).heap[w.heap.size]? = some (.cells #[.string nm, .int .i64 st, .slice A bs.length c, .slice A2 gs.length c2] 25 (0, 0)) from blk_new _ _ _)
  have HB := hd hb1
  have RL := hd (upJ HL.out hb1)
  have RG := hd (upJ HG.out hb1)
  have RU := hd (upJ HU.out hb1)
  clear hb1 HL HG HU
  go_enter Tryz.func3, Tryz.ntmps3
  go_wp2_with fail
  generalize (w.alloc (Obj.cells #[.string nm, .int .i64 st, .slice A bs.length c, .slice A2 gs.length c2] 25)) = z at *
  refine (short_any nm st A A2 bs.length c gs.length c2 _).mono ?_
  rw [S1.out]
  rintro e z0 ⟨rfl, hb⟩
  replace HQ := hd ((hb.block _ (blk_lt HQ.out)).trans HQ.out)
  replace HB := hd (HB.out.trans (hb.mono HB.out.size))
  replace RL := hd (upJ RL.out hb)
  replace RG := hd (upJ RG.out hb)
  replace RU := hd (upJ RU.out hb)
  clear hb
  go_wp2_with fail
  refine (sGauge_any _).mono ?_
  rintro e z1 ⟨rfl, hb⟩
  replace HQ := hd ((hb.block _ (blk_lt HQ.out)).trans HQ.out)
  replace HB := hd (HB.out.trans (hb.mono HB.out.size))
  replace RL := hd (upJ RL.out hb)
  replace RG := hd (upJ RG.out hb)
  replace RU := hd (upJ RU.out hb)
  clear hb
  go_wp2_with fail
  go_returns
  exact ⟨rfl, HB.out⟩

set_option maxRecDepth 1000000 in
set_option maxHeartbeats 4000000 in
theorem rec_long2 (nm : ByteArray) (st x0 : Int) (A A2 A3 : Option Addr) (c c2 c3 : Nat) (bs : List Nat) (gs : List (Int × Int)) (l : List Ru) (w : World) (HL : Hid (Rd w w.heap.size (.slice A bs.length c) bs.length (flc bs))) (HG : Hid (Rd w w.heap.size (.slice A2 gs.length c2) gs.length (spc gs))) (HU : Hid (Rd w w.heap.size (.slice A3 l.length c3) l.length (ruc l))) (HS : Hid (nm.size ≤ maxLen)) (S1 : Hid (shortR nm.size bs.length gs.length = true)) (S2 : Hid ((chkRec nm st bs gs != 0) = true)) :
    Calls Tryz.prog 3 #[.agg #[.string nm, .int .i64 st, .slice A bs.length c, .slice A2 gs.length c2], .slice A3 l.length c3, .int .u8 x0] w fun e w' => e = .returned (.bool true) ∧ Below w.heap.size w w' := by
  have hb1 := (Below.refl w.heap.size w).alloc (Nat.le_refl _) (Obj.cells #[.string nm, .int .i64 st, .slice A bs.length c, .slice A2 gs.length c2] 25)
  have HQ := hd (show (w.alloc (Obj.cells #[.string nm, .int .i64 st, .slice A bs.length c, .slice A2 gs.length c2] 25)).heap[w.heap.size]? = some (.cells #[.string nm, .int .i64 st, .slice A bs.length c, .slice A2 gs.length c2] 25 (0, 0)) from blk_new _ _ _)
  have HB := hd hb1
  have RL := hd (upJ HL.out hb1)
  have RG := hd (upJ HG.out hb1)
  have RU := hd (upJ HU.out hb1)
  clear hb1 HL HG HU
  go_enter Tryz.func3, Tryz.ntmps3
  go_wp2_with fail
  generalize (w.alloc (Obj.cells #[.string nm, .int .i64 st, .slice A bs.length c, .slice A2 gs.length c2] 25)) = z at *
  refine (short_any nm st A A2 bs.length c gs.length c2 _).mono ?_
  rw [S1.out]
  rintro e z0 ⟨rfl, hb⟩
  replace HQ := hd ((hb.block _ (blk_lt HQ.out)).trans HQ.out)
  replace HB := hd (HB.out.trans (hb.mono HB.out.size))
  replace RL := hd (upJ RL.out hb)
  replace RG := hd (upJ RG.out hb)
  replace RU := hd (upJ RU.out hb)
  clear hb
  have hZ := box4J HQ.out
  obtain ⟨k0, k1, k2, k3, -, -, -, -⟩ := hZ
  go_wp2_with fail
  refine (refRec_any nm st _ _ bs gs _ RL.out RG.out HS.out).mono ?_
  have S2' := S2.out
  generalize chkRec nm st bs gs = E1 at S2' ⊢
  rintro e z1 ⟨rfl, hb⟩
  replace HQ := hd ((hb.block _ (blk_lt HQ.out)).trans HQ.out)
  replace HB := hd (HB.out.trans (hb.mono HB.out.size))
  replace RL := hd (upJ RL.out hb)
  replace RG := hd (upJ RG.out hb)
  replace RU := hd (upJ RU.out hb)
  clear hb
  clear k0 k1 k2 k3
  go_wp2_with fail
  refine (sGauge_any _).mono ?_
  rintro e z2 ⟨rfl, hb⟩
  replace HQ := hd ((hb.block _ (blk_lt HQ.out)).trans HQ.out)
  replace HB := hd (HB.out.trans (hb.mono HB.out.size))
  replace RL := hd (upJ RL.out hb)
  replace RG := hd (upJ RG.out hb)
  replace RU := hd (upJ RU.out hb)
  clear hb
  go_wp2_with fail
  go_returns
  exact ⟨rfl, HB.out⟩

set_option maxRecDepth 1000000 in
set_option maxHeartbeats 4000000 in
theorem rec_long3 (nm : ByteArray) (st x0 : Int) (A A2 A3 : Option Addr) (c c2 c3 : Nat) (bs : List Nat) (gs : List (Int × Int)) (l : List Ru) (w : World) (HL : Hid (Rd w w.heap.size (.slice A bs.length c) bs.length (flc bs))) (HG : Hid (Rd w w.heap.size (.slice A2 gs.length c2) gs.length (spc gs))) (HU : Hid (Rd w w.heap.size (.slice A3 l.length c3) l.length (ruc l))) (HS : Hid (nm.size ≤ maxLen)) (S1 : Hid (shortR nm.size bs.length gs.length = true)) (S2 : Hid ((chkRec nm st bs gs != 0) = false)) (S3 : Hid ((chkRules l != 0) = true)) :
    Calls Tryz.prog 3 #[.agg #[.string nm, .int .i64 st, .slice A bs.length c, .slice A2 gs.length c2], .slice A3 l.length c3, .int .u8 x0] w fun e w' => e = .returned (.bool true) ∧ Below w.heap.size w w' := by
  have hb1 := (Below.refl w.heap.size w).alloc (Nat.le_refl _) (Obj.cells #[.string nm, .int .i64 st, .slice A bs.length c, .slice A2 gs.length c2] 25)
  have HQ := hd (show (w.alloc (Obj.cells #[.string nm, .int .i64 st, .slice A bs.length c, .slice A2 gs.length c2] 25)).heap[w.heap.size]? = some (.cells #[.string nm, .int .i64 st, .slice A bs.length c, .slice A2 gs.length c2] 25 (0, 0)) from blk_new _ _ _)
  have HB := hd hb1
  have RL := hd (upJ HL.out hb1)
  have RG := hd (upJ HG.out hb1)
  have RU := hd (upJ HU.out hb1)
  clear hb1 HL HG HU
  go_enter Tryz.func3, Tryz.ntmps3
  go_wp2_with fail
  generalize (w.alloc (Obj.cells #[.string nm, .int .i64 st, .slice A bs.length c, .slice A2 gs.length c2] 25)) = z at *
  refine (short_any nm st A A2 bs.length c gs.length c2 _).mono ?_
  rw [S1.out]
  rintro e z0 ⟨rfl, hb⟩
  replace HQ := hd ((hb.block _ (blk_lt HQ.out)).trans HQ.out)
  replace HB := hd (HB.out.trans (hb.mono HB.out.size))
  replace RL := hd (upJ RL.out hb)
  replace RG := hd (upJ RG.out hb)
  replace RU := hd (upJ RU.out hb)
  clear hb
  have hZ := box4J HQ.out
  obtain ⟨k0, k1, k2, k3, -, -, -, -⟩ := hZ
  go_wp2_with fail
  refine (refRec_any nm st _ _ bs gs _ RL.out RG.out HS.out).mono ?_
  have S2' := S2.out
  generalize chkRec nm st bs gs = E1 at S2' ⊢
  rintro e z1 ⟨rfl, hb⟩
  replace HQ := hd ((hb.block _ (blk_lt HQ.out)).trans HQ.out)
  replace HB := hd (HB.out.trans (hb.mono HB.out.size))
  replace RL := hd (upJ RL.out hb)
  replace RG := hd (upJ RG.out hb)
  replace RU := hd (upJ RU.out hb)
  clear hb
  clear k0 k1 k2 k3
  go_wp2_with fail
  refine (refRules_any _ l _ RU.out).mono ?_
  have S3' := S3.out
  generalize chkRules l = E2 at S3' ⊢
  rintro e z2 ⟨rfl, hb⟩
  replace HQ := hd ((hb.block _ (blk_lt HQ.out)).trans HQ.out)
  replace HB := hd (HB.out.trans (hb.mono HB.out.size))
  replace RL := hd (upJ RL.out hb)
  replace RG := hd (upJ RG.out hb)
  replace RU := hd (upJ RU.out hb)
  clear hb
  go_wp2_with fail
  refine (sGauge_any _).mono ?_
  rintro e z3 ⟨rfl, hb⟩
  replace HQ := hd ((hb.block _ (blk_lt HQ.out)).trans HQ.out)
  replace HB := hd (HB.out.trans (hb.mono HB.out.size))
  replace RL := hd (upJ RL.out hb)
  replace RG := hd (upJ RG.out hb)
  replace RU := hd (upJ RU.out hb)
  clear hb
  go_wp2_with fail
  go_returns
  exact ⟨rfl, HB.out⟩

set_option maxRecDepth 1000000 in
set_option maxHeartbeats 4000000 in
theorem rec_long4 (nm : ByteArray) (st x0 : Int) (A A2 A3 : Option Addr) (c c2 c3 : Nat) (bs : List Nat) (gs : List (Int × Int)) (l : List Ru) (w : World) (HL : Hid (Rd w w.heap.size (.slice A bs.length c) bs.length (flc bs))) (HG : Hid (Rd w w.heap.size (.slice A2 gs.length c2) gs.length (spc gs))) (HU : Hid (Rd w w.heap.size (.slice A3 l.length c3) l.length (ruc l))) (HS : Hid (nm.size ≤ maxLen)) (S1 : Hid (shortR nm.size bs.length gs.length = true)) (S2 : Hid ((chkRec nm st bs gs != 0) = false)) (S3 : Hid ((chkRules l != 0) = false)) (S4 : Hid ((99900 : Int) < st)) :
    Calls Tryz.prog 3 #[.agg #[.string nm, .int .i64 st, .slice A bs.length c, .slice A2 gs.length c2], .slice A3 l.length c3, .int .u8 x0] w fun e w' => e = .returned (.bool true) ∧ Below w.heap.size w w' := by
  have hb1 := (Below.refl w.heap.size w).alloc (Nat.le_refl _) (Obj.cells #[.string nm, .int .i64 st, .slice A bs.length c, .slice A2 gs.length c2] 25)
  have HQ := hd (show (w.alloc (Obj.cells #[.string nm, .int .i64 st, .slice A bs.length c, .slice A2 gs.length c2] 25)).heap[w.heap.size]? = some (.cells #[.string nm, .int .i64 st, .slice A bs.length c, .slice A2 gs.length c2] 25 (0, 0)) from blk_new _ _ _)
  have HB := hd hb1
  have RL := hd (upJ HL.out hb1)
  have RG := hd (upJ HG.out hb1)
  have RU := hd (upJ HU.out hb1)
  clear hb1 HL HG HU
  go_enter Tryz.func3, Tryz.ntmps3
  go_wp2_with fail
  generalize (w.alloc (Obj.cells #[.string nm, .int .i64 st, .slice A bs.length c, .slice A2 gs.length c2] 25)) = z at *
  refine (short_any nm st A A2 bs.length c gs.length c2 _).mono ?_
  rw [S1.out]
  rintro e z0 ⟨rfl, hb⟩
  replace HQ := hd ((hb.block _ (blk_lt HQ.out)).trans HQ.out)
  replace HB := hd (HB.out.trans (hb.mono HB.out.size))
  replace RL := hd (upJ RL.out hb)
  replace RG := hd (upJ RG.out hb)
  replace RU := hd (upJ RU.out hb)
  clear hb
  have hZ := box4J HQ.out
  obtain ⟨k0, k1, k2, k3, -, -, -, -⟩ := hZ
  go_wp2_with fail
  refine (refRec_any nm st _ _ bs gs _ RL.out RG.out HS.out).mono ?_
  have S2' := S2.out
  generalize chkRec nm st bs gs = E1 at S2' ⊢
  rintro e z1 ⟨rfl, hb⟩
  replace HQ := hd ((hb.block _ (blk_lt HQ.out)).trans HQ.out)
  replace HB := hd (HB.out.trans (hb.mono HB.out.size))
  replace RL := hd (upJ RL.out hb)
  replace RG := hd (upJ RG.out hb)
  replace RU := hd (upJ RU.out hb)
  clear hb
  clear k0 k1 k2 k3
  go_wp2_with fail
  refine (refRules_any _ l _ RU.out).mono ?_
  have S3' := S3.out
  generalize chkRules l = E2 at S3' ⊢
  rintro e z2 ⟨rfl, hb⟩
  replace HQ := hd ((hb.block _ (blk_lt HQ.out)).trans HQ.out)
  replace HB := hd (HB.out.trans (hb.mono HB.out.size))
  replace RL := hd (upJ RL.out hb)
  replace RG := hd (upJ RG.out hb)
  replace RU := hd (upJ RU.out hb)
  clear hb
  have hZ := box4J HQ.out
  obtain ⟨k0, k1, k2, k3, -, -, -, -⟩ := hZ
  have hst : (99900 : Int) < st := S4.out
  go_wp2_with fail
  refine (sGauge_any _).mono ?_
  rintro e z3 ⟨rfl, hb⟩
  replace HQ := hd ((hb.block _ (blk_lt HQ.out)).trans HQ.out)
  replace HB := hd (HB.out.trans (hb.mono HB.out.size))
  replace RL := hd (upJ RL.out hb)
  replace RG := hd (upJ RG.out hb)
  replace RU := hd (upJ RU.out hb)
  clear hb
  go_wp2_with fail
  go_returns
  exact ⟨rfl, HB.out⟩

theorem txB_smallJ (nm : ByteArray) (st : Int) (bs : List Nat) (gs : List (Int × Int)) (hst : 0 ≤ st ∧ st ≤ 100000) (hl : ∀ i, i < bs.length → chkLev (bs.getD i 0) = 0) : ∀ k, k ≤ bs.length → (txB nm st bs gs k).size ≤ 64 + nm.size + 40 * k
  | 0, _ => by
    have h1 := itB_small st (by omega)
    rw [txB]
    simp only [ByteArray.size_append]
    have e1 : (⟨#[103, 97, 117, 103, 101, 32]⟩ : ByteArray).size = 6 := rfl
    have e2 : (⟨#[32]⟩ : ByteArray).size = 1 := rfl
    have e3 : (⟨#[10]⟩ : ByteArray).size = 1 := rfl
    omega
  | k + 1, hk => by
    have ih := txB_smallJ nm st bs gs hst hl k (by omega)
    obtain ⟨-, t1, t2⟩ := sixt_of (show levOK (bs.getD k 0) = true by rw [levOK_iff]; simpa using hl k (by omega))
    have h2 := itB_small (s16 (bs.getD k 0)) (by omega)
    have e3 : (⟨#[10]⟩ : ByteArray).size = 1 := rfl
    have e4 : (⟨#[45, 10]⟩ : ByteArray).size = 2 := rfl
    rw [txB]
    split
    · simp only [ByteArray.size_append]; omega
    · simp only [ByteArray.size_append]; omega
theorem txt_chkJ {s : ByteArray} (h : txtE s = 0) : chkRec (tNm s) (tSt s) (tBs s) (tGs s) = 0 := by
  unfold txtE at h
  by_cases hq : synB s = true
  · rw [if_pos hq] at h; cases h
  · rw [if_neg hq] at h; exact h
theorem got_sumJ (nm : ByteArray) (st : Int) (bs : List Nat) (gs : List (Int × Int)) (V : Valid nm st bs gs) {c s e : Int} {lo hi : Nat} (hq : sumR (sumF (itm gs (fLvM bs) bs.length)) = .tuple #[.agg #[.int .i64 c, .int .i64 s, .float .f32 lo, .float .f32 hi], .int .i64 e]) (W : World) (lv gv : Value) (h : Rd W W.heap.size lv bs.length (flc bs)) (h' : Rd W W.heap.size gv gs.length (spc gs)) :
    Calls Tryz.prog 19 #[.agg #[.string nm, .int .i64 st, lv, gv]] W (GotSJ c s e lo hi W) := by
  have h1 := summary_any nm st lv gv bs gs W h h' V
  rw [hq] at h1
  exact h1
theorem few_gaps {gs : List (Int × Int)} {n : Nat} (hC : Can gs) (hb : ∀ s ∈ gs, 0 ≤ s.1 ∧ s.2 ≤ (n : Int)) (hn : n ≤ 40) : gs.length ≤ 21 := by
  by_cases hne : gs = []
  · rw [hne]; simp
  · have := can_count gs 0 (n : Int) hC hb hne
    omega

set_option maxRecDepth 1000000 in
set_option maxHeartbeats 4000000 in
theorem rec_all (nm : ByteArray) (st x0 : Int) (v2 v3 rv : Value) (bs : List Nat) (gs : List (Int × Int)) (l : List Ru) (w : World) (hl : Rd w w.heap.size v2 bs.length (flc bs)) (hg : Rd w w.heap.size v3 gs.length (spc gs)) (hr : Rd w w.heap.size rv l.length (ruc l)) (fl : Full v2) (fg : Full v3) (hs : nm.size ≤ maxLen)
    (h32 : ∀ j, j < bs.length → bs.getD j 0 < 4294967296) (hx0 : 0 ≤ x0 ∧ x0 ≤ 255) (m : Int) (hm : w.cell? ⟨2, 0, none⟩ = some (.int .i64 m)) (ht : Lib.TabIs Tryz.prog w "internal/strconv.uint64pow10" .u64 Lib.pow10Tab) :
    Calls Tryz.prog 3 #[.agg #[.string nm, .int .i64 st, v2, v3], rv, .int .u8 x0] w fun e w' => e = .returned (.bool true) ∧ Below w.heap.size w w' := by
  obtain ⟨A, c, rfl, -⟩ := id hl
  obtain ⟨A2, c2, rfl, -⟩ := id hg
  obtain ⟨A3, c3, rfl, -⟩ := id hr
  cases h1 : shortR nm.size bs.length gs.length
  · exact rec_long1 nm st x0 A A2 A3 c c2 c3 bs gs l w (hd hl) (hd hg) (hd hr) (hd h1)
  by_cases hE : chkRec nm st bs gs = 0
  rotate_left
  · exact rec_long2 nm st x0 A A2 A3 c c2 c3 bs gs l w (hd hl) (hd hg) (hd hr) (hd hs) (hd h1) (hd (by simpa using hE))
  by_cases hU : chkRules l = 0
  rotate_left
  · exact rec_long3 nm st x0 A A2 A3 c c2 c3 bs gs l w (hd hl) (hd hg) (hd hr) (hd hs) (hd h1) (hd (by simpa using hE)) (hd (by simpa using hU))
  by_cases hst : 99900 < st
  · exact rec_long4 nm st x0 A A2 A3 c c2 c3 bs gs l w (hd hl) (hd hg) (hd hr) (hd hs) (hd h1) (hd (by simpa using hE)) (hd (by simpa using hU)) (hd hst)
  obtain ⟨V, hC, hlv⟩ := valid_of hE hs
  have hst0 := V.start
  have hmost := V.most
  have hbd := rec_bounds V
  have hsp := chkSpans_ok gs V.spans
  have hsh : nm.size ≤ 60 ∧ bs.length ≤ 40 := by
    unfold shortR at h1
    simp only [Bool.and_eq_true, Bool.or_eq_true, decide_eq_true_eq] at h1
    omega
  have hru : ∀ j, j < l.length → chkRule (l.getD j ru0).1 (l.getD j ru0).2.1 (l.getD j ru0).2.2 = 0 := fun k hk => by
    rw [← ruErr_at l k hk]
    unfold chkRules at hU
    split at hU
    · cases hU
    · exact fst0_zero _ hU k
  have hl8 : l.length ≤ 8 := by
    unfold chkRules at hU
    split at hU
    · cases hU
    · omega
  have hT := (rsF_len bs gs l l.length).1
  have hap := apF_is bs gs l hC (by omega) hlv hru l.length (Nat.le_refl _)
  have hE2 := cleaned_ok nm st bs gs (rsF bs gs l l.length).1 hT (by omega) hE hlv
  obtain ⟨V2, hC2, hlv2⟩ := valid_of hE2 hs
  have hap2 := apF_is _ _ l hC2 (by rw [asm_len]; omega) hlv2 hru l.length (Nat.le_refl _)
  rw [rs_again, asm_len, asm_twice] at hap2
  have hlc := asm_len bs (rsF bs gs l l.length).1
  have hlR := (rsF_len bs gs l l.length).2
  have hles := fun i hi => less_hp bs gs l l.length i hi
  have hC32 : ∀ j, j < bs.length → (asmK bs (rsF bs gs l l.length).1 bs.length).getD j 0 < 4294967296 := fun j hj => by
    rw [asmK_at bs _ j hj]
    split
    · exact h32 j hj
    · decide
  have GC := hd (fun (X : World) (lv gv rv : Value) (h : Rd X X.heap.size lv bs.length (flc bs)) (h' : Rd X X.heap.size gv gs.length (spc gs)) (h'' : Rd X X.heap.size rv l.length (ruc l)) => show Calls Tryz.prog 8 #[.agg #[.string nm, .int .i64 st, lv, gv], rv] X (ClnN nm st bs.length (strF ((rsF bs gs l l.length).1.map (!·)) bs.length).length (asmK bs (rsF bs gs l l.length).1 bs.length) (strF ((rsF bs gs l l.length).1.map (!·)) bs.length) X) from (clean_ok nm st lv gv rv bs gs l X h h' h'' V hU).mono fun e w' ⟨lv', gv', he, q1, q2, hb⟩ => by
    rw [hap] at q1 q2
    rw [hlc] at q1
    obtain ⟨D1, d1, rfl, -⟩ := own_form q1
    obtain ⟨D2, d2, rfl, -⟩ := own_form q2
    exact ⟨_, _, _, _, he, q1, q2, hb⟩)
  have GC2 := hd (fun (X : World) (lv gv rv : Value) (h : Rd X X.heap.size lv bs.length (flc (asmK bs (rsF bs gs l l.length).1 bs.length))) (h' : Rd X X.heap.size gv (strF ((rsF bs gs l l.length).1.map (!·)) bs.length).length (spc (strF ((rsF bs gs l l.length).1.map (!·)) bs.length))) (h'' : Rd X X.heap.size rv l.length (ruc l)) => show Calls Tryz.prog 8 #[.agg #[.string nm, .int .i64 st, lv, gv], rv] X (ClnN nm st bs.length (strF ((rsF bs gs l l.length).1.map (!·)) bs.length).length (asmK bs (rsF bs gs l l.length).1 bs.length) (strF ((rsF bs gs l l.length).1.map (!·)) bs.length) X) from (clean_ok nm st lv gv rv _ _ l X (by rw [hlc]; exact h) h' h'' V2 hU).mono fun e w' ⟨lv', gv', he, q1, q2, hb⟩ => by
    rw [hap2] at q1 q2
    rw [hlc] at q1
    obtain ⟨D1, d1, rfl, -⟩ := own_form q1
    obtain ⟨D2, d2, rfl, -⟩ := own_form q2
    exact ⟨_, _, _, _, he, q1, q2, hb⟩)
  have GH := hd (fun (X : World) (lv gv rv : Value) (h : Rd X X.heap.size lv bs.length (flc bs)) (h' : Rd X X.heap.size gv gs.length (spc gs)) (h'' : Rd X X.heap.size rv l.length (ruc l)) => show Calls Tryz.prog 11 #[.agg #[.string nm, .int .i64 st, lv, gv], rv] X (RsnN bs.length (rsF bs gs l l.length).2 X) from (reasons_ok nm st lv gv rv bs gs l X h h' h'' V hU).mono fun e w' ⟨xv, he, q, hb⟩ => by
    rw [hap] at q
    rw [hlR] at q
    obtain ⟨D1, d1, rfl, -⟩ := own_form q
    exact ⟨_, _, he, rd_of_own q, hb⟩)
  clear hap hap2
  generalize asmK bs (rsF bs gs l l.length).1 bs.length = CB at *
  generalize strF ((rsF bs gs l l.length).1.map (!·)) bs.length = CG at *
  generalize (rsF bs gs l l.length).2 = R at *
  clear hT
  have hb2 := rec_bounds V2
  rw [hlc] at hb2
  have hsp2 := chkSpans_ok CG V2.spans
  have hCG21 := few_gaps hC2 hb2 hsh.2
  obtain ⟨k, hk⟩ := Int.eq_ofNat_of_zero_le (show 0 ≤ x0 % ((bs.length : Int) + 1) from Int.emod_nonneg _ (by omega))
  have hkn : k ≤ bs.length := by have := Int.emod_lt_of_pos x0 (show 0 < (bs.length : Int) + 1 by omega); omega
  have hkc : k ≤ CB.length := by omega
  have hstk : st + (k : Int) ≤ 100000 := by omega
  have hH := head_ok hE2 hs hkc
  have hTt := tail_ok hE2 hs hkc hstk
  obtain ⟨VH, hCH, hlH⟩ := valid_of hH hs
  obtain ⟨VT, hCT, hlT⟩ := valid_of hTt hs
  have hgaps := parts_gaps hE2 hs hkc hstk
  obtain ⟨hh1, hh2, hh3⟩ := head_has (gs := CG) (k := k) V2.spans (by omega)
  obtain ⟨ht1, ht2, ht3⟩ := tail_has (gs := CG) (k := k) (n := CB.length) V2.spans (by omega)
  have hHl : (CB.take k).length = k := by rw [List.length_take]; omega
  have hTl : (CB.drop k).length = CB.length - k := List.length_drop ..
  have hcut0 : cutP CG ((0 : Nat) : Int) (k : Int) = partH CG k := cut_head V2.spans hC2 (by omega)
  have hcut1 := cut_tail (k := k) (n := CB.length) V2.spans hC2 (by omega)
  have hPT21 : (shl k (partT CG k CB.length)).length ≤ 21 := by rw [← hcut1]; exact Nat.le_trans (cut_len _ _ _) hCG21
  have hPH21 : (partH CG k).length ≤ 21 := by rw [← hcut0]; exact Nat.le_trans (cut_len _ _ _) hCG21
  -- what is counted
  have hless := cnt_less hles bs.length (Nat.le_refl _)
  have htc : totK CG CG.length = cntH gs bs.length + lsK R bs.length := by rw [tot_all2 CG bs.length hC2 hb2, hless]
  have htg : totK gs gs.length = cntH gs bs.length := tot_all2 gs bs.length hC hbd
  have htb := tot_in gs hsp.2.1 gs.length (Nat.le_refl _)
  have hlb := lsK_bnd R bs.length
  have hgl : gs.length ≤ 21 := few_gaps hC hbd hsh.2
  have T1 := hd (fun (X : World) (gv : Value) (h : Rd X X.heap.size gv CG.length (spc CG)) => show Calls Tryz.prog 13 #[gv] X (fun e w' => e = .returned (.int .i64 (totK gs gs.length + lsK R bs.length)) ∧ Below X.heap.size X w') from by
    have := refTotal_any gv CG X h hsp2.2.1 hsp2.1
    rwa [htc, ← htg] at this)
  have T2 := hd (fun (X : World) (gv : Value) (h : Rd X X.heap.size gv gs.length (spc gs)) => show Calls Tryz.prog 13 #[gv] X (fun e w' => e = .returned (.int .i64 (totK gs gs.length)) ∧ Below X.heap.size X w') from refTotal_any gv gs X h hsp.2.1 hsp.1)
  have hsame : rfK (CB.take k) (partH CG k) (CB.take k).length = rfK CB CG k := by
    rw [hHl]
    exact rf_same (fun i hi => getD_take CB k i hi) (fun i hi => by rw [hh2, decide_eq_true (show (0 : Int) ≤ (i : Int) by omega), decide_eq_true (show (i : Int) < (k : Int) by omega)]; simp) k (Nat.le_refl _)
  have hmore := rf_more (bs := CB) (bs' := CB.drop k) (gs := CG) (gs' := shl k (partT CG k CB.length)) (k0 := k) (m := CB.length - k) (fun j hj => getD_drop CB k j) (fun j hj => by
    rw [shl_has, ht2, show (j : Int) + (k : Int) = ((k + j : Nat) : Int) by omega, decide_eq_true (show (k : Int) ≤ ((k + j : Nat) : Int) by omega), decide_eq_true (show ((k + j : Nat) : Int) < (CB.length : Int) by omega)]; simp) (CB.length - k) (Nat.le_refl _)
  rw [show k + (CB.length - k) = CB.length by omega, ← hTl] at hmore
  obtain ⟨m1, m2, -, -⟩ := hmore
  obtain ⟨cx, sx, ex, lx, hx, q1, q2, q3, q4⟩ := sum_parts CB CG hC2 hlv2
  obtain ⟨ca, sa, ea, la, ha, a1, a2, a3, a4⟩ := sum_parts (CB.take k) (partH CG k) hCH hlH
  obtain ⟨cb, sb, eb, lB, hB, b1, b2, b3, b4⟩ := sum_parts (CB.drop k) (shl k (partT CG k CB.length)) hCT hlT
  rw [hsame] at a2 a3
  have hcs : cx = ca + cb ∧ sx = sa + sb := ⟨by omega, by omega⟩
  obtain ⟨rfl, rfl⟩ := hcs
  have rk1 := rfK_ok CB CG hlv2 k hkc
  have rk2 := rfK_ok (CB.drop k) (shl k (partT CG k CB.length)) hlT (CB.drop k).length (Nat.le_refl _)
  have hcnt := rf_count CB CG CB.length
  rw [hlc] at hcnt q2
  -- texts and streams
  have hM : ∀ W, Below w.heap.size w W → W.cell? ⟨2, 0, none⟩ = some (.int .i64 m) := fun W hW => (hW.cell (p := ⟨2, 0, none⟩) (World.block_lt_of_cell? _ _ hm)).trans hm
  have hTab : ∀ W, Below w.heap.size w W → Lib.TabIs Tryz.prog W "internal/strconv.uint64pow10" .u64 Lib.pow10Tab := fun W hW => Joins.tab_stays (g := 1) (by kernel_rfl) ht hW (Nat.le_refl _)
  have hcs := txB_smallJ nm st (CB.take k) (partH CG k) hst0 hlH (CB.take k).length (Nat.le_refl _)
  obtain ⟨p1, p2, p3, p4, p5⟩ := print_read VH hlH
  have GP := hd (fun (X : World) (lv gv : Value) (hX : Below w.heap.size w X) (h : Rd X X.heap.size lv k (flc (CB.take k))) (h' : Rd X X.heap.size gv (partH CG k).length (spc (partH CG k))) => gPrint_any nm st lv gv (CB.take k) (partH CG k) X (by rw [hHl]; exact h) h' VH (fun Y hY => hTab Y (hX.trans (hY.mono hX.size))))
  obtain ⟨code, hcode⟩ : ∃ x, x = txB nm st (CB.take k) (partH CG k) (CB.take k).length := ⟨_, rfl⟩
  rw [← hcode] at GP hcs p1 p2 p3 p4 p5
  have htl := same_len p5
  rw [hHl] at htl
  have hTBk := txt_chkJ p1
  rw [p2, p3, p4] at hTBk
  have GD := hd (fun (X : World) (hX : Below w.heap.size w X) => show Calls Tryz.prog 15 #[.string code] X (ParN nm st k (partH CG k).length (tBs code) (partH CG k) X) from by
    refine (gParse_anyF code m X (by omega) (hM X hX)).mono ?_
    rintro e w' ⟨hb, ⟨-, LV, GV, rfl, k1, k2, k3⟩ | ⟨h0, -⟩⟩
    · rw [htl] at k1
      rw [p4] at k2
      obtain ⟨D1, d1, rfl, -⟩ := id k1
      obtain ⟨D2, d2, rfl, -⟩ := id k2
      exact ⟨_, _, _, _, by rw [p2, p3], k1, k2, k3, hb⟩
    · exact absurd p1 h0)
  obtain ⟨B, hBc⟩ := encV_str nm (st + (k : Int)) (CB.drop k) (shl k (partT CG k CB.length)) (by omega)
  have hBs : B.size = 17 + nm.size + 8 * (shl k (partT CG k CB.length)).length + 4 * (CB.drop k).length := by rw [← encV_size, ← hBc, Lib.strCells_length]
  obtain ⟨r1, r2, r3, r4, r5⟩ := stream_read VT hlT (fun j hj => by rw [getD_drop]; exact hC32 _ (by omega)) hBc
  have GE := hd (fun (X : World) (lv gv : Value) (h : Rd X X.heap.size lv (bs.length - k) (flc (CB.drop k))) (h' : Rd X X.heap.size gv (shl k (partT CG k CB.length)).length (spc (shl k (partT CG k CB.length)))) => show Calls Tryz.prog 16 #[.agg #[.string nm, .int .i64 (st + (k : Int)), lv, gv]] X (EncN B.size (Lib.strCells B) X) from by
    refine (encode_any nm (st + (k : Int)) lv gv (CB.drop k) (shl k (partT CG k CB.length)) X (by rw [hTl, hlc]; exact h) h' VT).mono ?_
    rintro e w' ⟨v, rfl, hown, hb⟩
    rw [encV_size, ← hBs, ← hBc] at hown
    obtain ⟨D1, d1, rfl, -⟩ := own_form hown
    exact ⟨_, _, rfl, rd_of_own hown, hb⟩)
  have hel : (encL (CB.drop k)).length = bs.length - k := by simp [encL]; omega
  have DD := hd (fun (X : World) (A : Option Addr) (c : Nat) (h : Rd X X.heap.size (.slice A B.size c) B.size (Lib.strCells B)) => show Calls Tryz.prog 17 #[.slice A B.size c] X (DecN nm (st + (k : Int)) (bs.length - k) (shl k (partT CG k CB.length)).length (encL (CB.drop k)) (shl k (partT CG k CB.length)) X) from by
    refine (decode_anyF B A c X h (by omega)).mono ?_
    rintro e w' ⟨hb, ⟨-, LV, GV, rfl, k1, k2, k3⟩ | ⟨h0, -⟩⟩
    · rw [r5, hel] at k1
      rw [r4] at k2
      obtain ⟨D1, d1, rfl, -⟩ := id k1
      obtain ⟨D2, d2, rfl, -⟩ := id k2
      exact ⟨_, _, _, _, by rw [r2, r3], k1, k2, k3, hb⟩
    · exact absurd r1 h0)
  have hEBk := encL_ok VT hlT
  have hsT := chkSpans_ok _ VT.spans
  have AP := hd (fun (X : World) (u1 u2 u3 u4 : Value) (k1 : Rd X X.heap.size u1 k (flc (tBs code))) (k2 : Rd X X.heap.size u2 (partH CG k).length (spc (partH CG k))) (k3 : Rd X X.heap.size u3 (bs.length - k) (flc (encL (CB.drop k)))) (k4 : Rd X X.heap.size u4 (shl k (partT CG k CB.length)).length (spc (shl k (partT CG k CB.length)))) (f1 : Full u1) (f3 : Full u3) => show Calls Tryz.prog 18 #[.agg #[.string nm, .int .i64 st, u1, u2], .agg #[.string nm, .int .i64 (st + (k : Int)), u3, u4]] X (ClnN nm st bs.length CG.length (tBs code ++ encL (CB.drop k)) CG X) from by
    rw [← htl] at k1
    rw [← hel] at k3
    obtain ⟨B1, d1, rfl, -⟩ := id k1
    obtain ⟨B2, d2, rfl, -⟩ := id k2
    obtain ⟨B3, d3, rfl, -⟩ := id k3
    obtain ⟨B4, d4, rfl, -⟩ := id k4
    refine (append_ok nm nm st (st + (k : Int)) B1 B2 B3 B4 d1 d2 d3 d4 (tBs code) (encL (CB.drop k)) (partH CG k) (shl k (partT CG k CB.length)) X (hd k1) (hd k2) (hd k3) (hd k4) hs hs (hd (full_none f1)) (hd (full_none f3)) (by omega) hsT.1 (hd (fun j hj => ?_)) (by omega) (by omega) ?_).mono ?_
    · have h5 := hsT.2.1 _ (getD_mem _ j hj)
      have h6 := VT.ends j hj
      omega
    · apply fst0_all
      intro j hj
      have hj : j < 5 := by simpa using hj
      rcases (show j = 0 ∨ j = 1 ∨ j = 2 ∨ j = 3 ∨ j = 4 by omega) with rfl | rfl | rfl | rfl | rfl
      · exact hTBk
      · exact hEBk
      · show unl (nm.toList == nm.toList) 30 = 0
        simp [unl]
      · show unl (st + (k : Int) == wrap64 (st + ((tBs code).length : Int))) 11 = 0
        rw [htl]
        have e1 : wrap64 (st + (k : Int)) = st + (k : Int) := by unfold wrap64; omega
        rw [e1]; simp [unl]
      · show Go.Proofs.YtkgkpcmokmhakaaGreatDoor.most (((tBs code).length : Int) + ((encL (CB.drop k)).length : Int)) 4096 = 0
        unfold Go.Proofs.YtkgkpcmokmhakaaGreatDoor.most
        rw [if_pos (by omega)]
    · rintro e w' ⟨LV, GV, rfl, o1, o2, hb⟩
      rw [htl] at o2
      rw [hgaps] at o2
      rw [show (tBs code).length + (encL (CB.drop k)).length = bs.length by omega, ← flc_append] at o1
      obtain ⟨D1, e1, rfl, -⟩ := own_form o1
      obtain ⟨D2, e2, rfl, -⟩ := own_form o2
      exact ⟨_, _, _, _, rfl, o1, o2, hb⟩)
  have hse : ((bs.length : Nat) : Int) - (totK gs gs.length + lsK R bs.length) = ca + cb := by rw [htg, ← hless]; omega
  have CR := hd (fun (X : World) (lv gv : Value) (h : Rd X X.heap.size lv bs.length (flc bs)) (h' : Rd X X.heap.size gv gs.length (spc gs)) => show Calls Tryz.prog 5 #[.agg #[.string nm, .int .i64 st, lv, gv]] X (fun e w' => e = .returned (.int .i64 0) ∧ Below X.heap.size X w') from (refRec_any nm st lv gv bs gs X h h' hs).mono fun e w' ⟨he, hb⟩ => ⟨by rw [he, hE], hb⟩)
  have CU := hd (fun (X : World) (rv : Value) (h : Rd X X.heap.size rv l.length (ruc l)) => show Calls Tryz.prog 6 #[rv] X (fun e w' => e = .returned (.int .i64 0) ∧ Below X.heap.size X w') from (refRules_any rv l X h).mono fun e w' ⟨he, hb⟩ => ⟨by rw [he, hU], hb⟩)
  have CC := hd (fun (X : World) (lv gv : Value) (h : Rd X X.heap.size lv bs.length (flc CB)) (h' : Rd X X.heap.size gv CG.length (spc CG)) => show Calls Tryz.prog 5 #[.agg #[.string nm, .int .i64 st, lv, gv]] X (fun e w' => e = .returned (.int .i64 0) ∧ Below X.heap.size X w') from (refRec_any nm st lv gv CB CG X (by rw [hlc]; exact h) h' hs).mono fun e w' ⟨he, hb⟩ => ⟨by rw [he, hE2], hb⟩)
  have hsumC := got_sumJ nm st CB CG V2 q1
  have hsumH := got_sumJ nm st (CB.take k) (partH CG k) VH a1
  have hsumT := got_sumJ nm (st + (k : Int)) (CB.drop k) (shl k (partT CG k CB.length)) VT b1
  rw [hlc] at hsumC
  rw [hHl] at hsumH
  have hTl2 : (CB.drop k).length = bs.length - k := by omega
  rw [hTl2] at hsumT
  refine rec_walk nm code st x0 (totK gs gs.length) ca sa ea cb sb eb ex A A2 A3 c c2 c3 bs.length k (bs.length - k) B.size lx la lB hx ha hB bs CB (CB.take k) (CB.drop k) (tBs code) (encL (CB.drop k)) (tBs code ++ encL (CB.drop k)) gs CG (partH CG k) (shl k (partT CG k CB.length)) l R (Lib.strCells B) w
    (hd hl) (hd hg) (hd hr) (hd fl) (hd fg) (hd h1) (hd ⟨by omega, by omega⟩) (hd hx0) (hd hk) (hd ⟨rfl, hlc, hlR, hmost, hkn, hsp.1, hsp2.1, by omega, rfl, by omega, by omega⟩)
    (hd ⟨List.drop_zero, by rw [← hlc, List.take_length], hcut0, by rw [← hlc]; exact hcut1, hHl, hTl2⟩)
    CR CU CC GC GC2 GH (hd (sameF_yes feqL 0 CB CB rfl (fun j hj => feq_self (hlv2 j hj)))) (hd (same_join hkc p5 (encL_same hlT))) (hd (by rw [List.length_append]; omega)) T1 T2 (hd ⟨htb.1, by omega, hlb.1, by omega⟩) (hd hsp2.2.1)
    GP GD GE DD AP (hd hsumC) (hd hsumH) (hd hsumT) (hd ?e0) (hd ?e1) (hd ?e2) (hd ?sn) (hd hse)
  case e0 => rcases q4 with ⟨-, h⟩ | ⟨-, h, -⟩ <;> omega
  case e1 => rcases a4 with ⟨-, h⟩ | ⟨-, h, -⟩ <;> omega
  case e2 => rcases b4 with ⟨-, h⟩ | ⟨-, h, -⟩ <;> omega
  case sn =>
    rw [a2, a3, b2, b3]
    refine ⟨rk1.1, by have := rk1.2.1; omega, rk2.1, by have := rk2.2.1; omega, by have := rk1.2.2.1; omega, by have := rk1.2.2.2.1; omega, by have := rk2.2.2.1; omega, by have := rk2.2.2.2.1; omega⟩
end Go.Proofs.YtkgkpcmokmhakaaGreatDoor
