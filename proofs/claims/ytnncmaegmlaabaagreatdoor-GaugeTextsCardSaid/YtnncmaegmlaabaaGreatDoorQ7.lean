/-
  The reference's CheckRule and CheckRules, Short and ShortRules.
-/
import Derived.Test.YtnncmaegmlaabaaGreatDoorProg
import Derived.Test.YtnncmaegmlaabaaGreatDoorME
import Derived.Test.YtnncmaegmlaabaaGreatDoorMI
import Derived.Test.YtnncmaegmlaabaaGreatDoorH2
namespace Go.Proofs.YtnncmaegmlaabaaGreatDoor
open Go.RowKit
attribute [local go_sem] Oper.semAt_some

theorem str_eq (kd : ByteArray) (a : Array UInt8) (b : Bool) (h : (kd == ⟨a⟩) = b) : (kd.toList == a.toList) = b := by
  have e : (kd == ⟨a⟩) = (kd.data == a) := by cases kd; rfl
  rw [← h, e, ByteArray.toList_eq, Bool.eq_iff_iff, beq_iff_eq, beq_iff_eq]
  exact Array.toList_inj

set_option maxRecDepth 1000000 in
set_option maxHeartbeats 2000000 in
theorem refRule_any (kd : ByteArray) (A B : Int) (w : World) : Calls Tryz.prog 71 #[.agg #[.string kd, .int .i64 A, .int .i64 B]] w fun e w' => e = .returned (.int .i64 (chkRule kd A B)) ∧ Below w.heap.size w w' := by
  cases h1 : kd == sRange
  · cases h2 : kd == sJump
    · cases h3 : kd == sStuck
      · have g1 : (kd.toList == [114, 97, 110, 103, 101]) = false := str_eq kd #[114, 97, 110, 103, 101] false h1
        have g2 : (kd.toList == [106, 117, 109, 112]) = false := str_eq kd #[106, 117, 109, 112] false h2
        have g3 : (kd.toList == [115, 116, 117, 99, 107]) = false := str_eq kd #[115, 116, 117, 99, 107] false h3
        have HC := hd (show chkRule kd A B = 13 by simp [chkRule, h1, h2, h3])
        clear h1 h2 h3
        go_enter Tryz.func71, Tryz.ntmps71
        go_wp2_with fail
        go_returns
        exact ⟨by rw [HC.out]; rfl, (Below.refl _ w).alloc (Nat.le_refl _) _⟩
      · have g1 : (kd.toList == [114, 97, 110, 103, 101]) = false := str_eq kd #[114, 97, 110, 103, 101] false h1
        have g2 : (kd.toList == [106, 117, 109, 112]) = false := str_eq kd #[106, 117, 109, 112] false h2
        have g3 : (kd.toList == [115, 116, 117, 99, 107]) = true := str_eq kd #[115, 116, 117, 99, 107] true h3
        have HC := hd (show chkRule kd A B = chkSt A B by simp [chkRule, h1, h2, h3])
        clear h1 h2 h3
        go_enter Tryz.func71, Tryz.ntmps71
        go_wp2_with fail
        have c1 := World.cell?_alloc_new w #[.string kd, .int .i64 A, .int .i64 B] 52 1
        have c2 := World.cell?_alloc_new w #[.string kd, .int .i64 A, .int .i64 B] 52 2
        have hsz : w.heap.size < (w.alloc (Obj.cells #[.string kd, .int .i64 A, .int .i64 B] 52)).heap.size := by simp
        have hb1 : Below w.heap.size w (w.alloc (Obj.cells #[.string kd, .int .i64 A, .int .i64 B] 52)) := (Below.refl _ w).alloc (Nat.le_refl _) _
        generalize (w.alloc (Obj.cells #[.string kd, .int .i64 A, .int .i64 B] 52)) = W1 at c1 c2 hsz hb1 ⊢
        have F1 : ∀ p : Bw W1, p.out.cell? ⟨w.heap.size, 1, none⟩ = some (.int .i64 A) := fun p => p.cell hsz (by simpa using c1)
        have F2 : ∀ p : Bw W1, p.out.cell? ⟨w.heap.size, 2, none⟩ = some (.int .i64 B) := fun p => p.cell hsz (by simpa using c2)
        clear c1 c2
        refine wp_region_bw_tail 6 (by kernel_rfl) (by kernel_rfl) ?_
        simp only [List.take_succ_cons, List.take_zero, List.drop_succ_cons, List.drop_zero]
        repeat (first | go_big_quiet_step (first | (go_at_call 55; exact Bw.call _ (refRange_any _ _ _ _))))
        refine wpQuiet_nil ?_
        rintro ⟨W2, hB2⟩
        change wpList _ _ _ _ _ W2
        have HB2 := hd (hb1.trans ((hB2.alloc hB2.size (Obj.cells #[.int .i64 (rng A 1 4096), .int .i64 (rng B 0 0)] 3)).mono hb1.size))
        have hR := hd (Rd.new W2 #[.int .i64 (rng A 1 4096), .int .i64 (rng B 0 0)] 3 2 ([rng A 1 4096, rng B 0 0].map (Value.int .i64)) rfl (by decide))
        clear F1 F2 hB2
        go_wp2_with fail
        refine (refFirst_any _ [rng A 1 4096, rng B 0 0] _ hR.out).mono ?_
        rintro e w' ⟨rfl, rfl⟩
        clear hR
        go_wp2_with fail
        go_returns
        exact ⟨by rw [HC.out]; rfl, HB2.out⟩
    · have g1 : (kd.toList == [114, 97, 110, 103, 101]) = false := str_eq kd #[114, 97, 110, 103, 101] false h1
      have g2 : (kd.toList == [106, 117, 109, 112]) = true := str_eq kd #[106, 117, 109, 112] true h2
      have HC := hd (show chkRule kd A B = chkJp A B by simp [chkRule, h1, h2])
      clear h1 h2
      go_enter Tryz.func71, Tryz.ntmps71
      go_wp2_with fail
      have c1 := World.cell?_alloc_new w #[.string kd, .int .i64 A, .int .i64 B] 52 1
      have c2 := World.cell?_alloc_new w #[.string kd, .int .i64 A, .int .i64 B] 52 2
      have hsz : w.heap.size < (w.alloc (Obj.cells #[.string kd, .int .i64 A, .int .i64 B] 52)).heap.size := by simp
      have hb1 : Below w.heap.size w (w.alloc (Obj.cells #[.string kd, .int .i64 A, .int .i64 B] 52)) := (Below.refl _ w).alloc (Nat.le_refl _) _
      generalize (w.alloc (Obj.cells #[.string kd, .int .i64 A, .int .i64 B] 52)) = W1 at c1 c2 hsz hb1 ⊢
      have F1 : ∀ p : Bw W1, p.out.cell? ⟨w.heap.size, 1, none⟩ = some (.int .i64 A) := fun p => p.cell hsz (by simpa using c1)
      have F2 : ∀ p : Bw W1, p.out.cell? ⟨w.heap.size, 2, none⟩ = some (.int .i64 B) := fun p => p.cell hsz (by simpa using c2)
      clear c1 c2
      refine wp_region_bw_tail 6 (by kernel_rfl) (by kernel_rfl) ?_
      simp only [List.take_succ_cons, List.take_zero, List.drop_succ_cons, List.drop_zero]
      repeat (first | go_big_quiet_step (first | (go_at_call 55; exact Bw.call _ (refRange_any _ _ _ _))))
      refine wpQuiet_nil ?_
      rintro ⟨W2, hB2⟩
      change wpList _ _ _ _ _ W2
      have HB2 := hd (hb1.trans ((hB2.alloc hB2.size (Obj.cells #[.int .i64 (rng A 0 2048), .int .i64 (rng B 0 0)] 3)).mono hb1.size))
      have hR := hd (Rd.new W2 #[.int .i64 (rng A 0 2048), .int .i64 (rng B 0 0)] 3 2 ([rng A 0 2048, rng B 0 0].map (Value.int .i64)) rfl (by decide))
      clear F1 F2 hB2
      go_wp2_with fail
      refine (refFirst_any _ [rng A 0 2048, rng B 0 0] _ hR.out).mono ?_
      rintro e w' ⟨rfl, rfl⟩
      clear hR
      go_wp2_with fail
      go_returns
      exact ⟨by rw [HC.out]; rfl, HB2.out⟩
  · have g1 : (kd.toList == [114, 97, 110, 103, 101]) = true := str_eq kd #[114, 97, 110, 103, 101] true h1
    have HC := hd (show chkRule kd A B = chkRg A B by simp [chkRule, h1])
    clear h1
    go_enter Tryz.func71, Tryz.ntmps71
    go_wp2_with fail
    have c1 := World.cell?_alloc_new w #[.string kd, .int .i64 A, .int .i64 B] 52 1
    have c2 := World.cell?_alloc_new w #[.string kd, .int .i64 A, .int .i64 B] 52 2
    have hsz : w.heap.size < (w.alloc (Obj.cells #[.string kd, .int .i64 A, .int .i64 B] 52)).heap.size := by simp
    have hb1 : Below w.heap.size w (w.alloc (Obj.cells #[.string kd, .int .i64 A, .int .i64 B] 52)) := (Below.refl _ w).alloc (Nat.le_refl _) _
    generalize (w.alloc (Obj.cells #[.string kd, .int .i64 A, .int .i64 B] 52)) = W1 at c1 c2 hsz hb1 ⊢
    have F1 : ∀ p : Bw W1, p.out.cell? ⟨w.heap.size, 1, none⟩ = some (.int .i64 A) := fun p => p.cell hsz (by simpa using c1)
    have F2 : ∀ p : Bw W1, p.out.cell? ⟨w.heap.size, 2, none⟩ = some (.int .i64 B) := fun p => p.cell hsz (by simpa using c2)
    clear c1 c2
    refine wp_region_bw_tail 8 (by kernel_rfl) (by kernel_rfl) ?_
    simp only [List.take_succ_cons, List.take_zero, List.drop_succ_cons, List.drop_zero]
    repeat (first | go_big_quiet_step (first | (go_at_call 55; exact Bw.call _ (refRange_any _ _ _ _))))
    refine wpQuiet_nil ?_
    rintro ⟨W2, hB2⟩
    change wpList _ _ _ _ _ W2
    have HB2 := hd (hb1.trans ((hB2.alloc hB2.size (Obj.cells #[.int .i64 (rng A (-1024) 1024), .int .i64 (rng B A 1024)] 3)).mono hb1.size))
    have hR := hd (Rd.new W2 #[.int .i64 (rng A (-1024) 1024), .int .i64 (rng B A 1024)] 3 2 ([rng A (-1024) 1024, rng B A 1024].map (Value.int .i64)) rfl (by decide))
    clear F1 F2 hB2
    go_wp2_with fail
    refine (refFirst_any _ [rng A (-1024) 1024, rng B A 1024] _ hR.out).mono ?_
    rintro e w' ⟨rfl, rfl⟩
    clear hR
    go_wp2_with fail
    go_returns
    exact ⟨by rw [HC.out]; rfl, HB2.out⟩

set_option maxRecDepth 1000000 in
set_option maxHeartbeats 2000000 in
theorem refRules_any (sl : Value) (l : List Ru) (w : World) (h : Rd w w.heap.size sl l.length (ruc l)) :
    Calls Tryz.prog 19 #[sl] w fun e w' => e = .returned (.int .i64 (chkRules l)) ∧ Below w.heap.size w w' := by
  obtain ⟨A, c, rfl, hc1, hc2, hc⟩ := h
  unfold maxLen at hc2
  have HC := hd hc
  clear hc
  by_cases h8 : 8 < l.length
  · have HV := hd (show chkRules l = 5 by simp [chkRules, h8])
    have h8' : (8 : Int) < (l.length : Int) := by omega
    go_enter Tryz.func19, Tryz.ntmps19
    go_wp2
    go_returns
    exact ⟨by rw [HV.out]; rfl, Below.refl _ _⟩
  · have HV := hd (show chkRules l = fst0 (ruErr l) by simp [chkRules, h8])
    have h8' : ¬ (8 : Int) < (l.length : Int) := by omega
    go_enter Tryz.func19, Tryz.ntmps19
    go_wp2
    go_loopw [3] (fun i wr => ∃ k : Nat, k ≤ l.length ∧ i = .int .i64 k ∧ Below w.heap.size w wr ∧ Hid (∀ j, j < k → (ruErr l).getD j 0 = 0)) (fun i _ => l.length - (intOf i).toNat)
    case atStart => exact ⟨0, Nat.zero_le _, rfl, Below.refl _ _, hd (fun j hj => absurd hj (by omega))⟩
    case round =>
      obtain ⟨k, hk, rfl, hb, HZ⟩ := hrel
      by_cases hlt : k < l.length
      · obtain ⟨b, off, rfl, hbb, hcell⟩ := HC.out (by omega)
        obtain ⟨q0, q1, q2⟩ := ruc_getD l k hlt
        have hs0 := (hb.cell (p := ⟨b, _, none⟩) hbb).trans ((hcell (k * 3) (by rw [ruc_len]; omega)).trans q0)
        have hs1 := (hb.cell (p := ⟨b, _, none⟩) hbb).trans ((hcell (k * 3 + 1) (by rw [ruc_len]; omega)).trans q1)
        have hs2 := (hb.cell (p := ⟨b, _, none⟩) hbb).trans ((hcell (k * 3 + 2) (by rw [ruc_len]; omega)).trans q2)
        rw [← Nat.add_assoc] at hs1 hs2
        have HE := hd (ruErr_at l k hlt)
        have HB := hd hb
        clear hcell q0 q1 q2 hb
        generalize (l.getD k ru0).1 = kd at *
        generalize (l.getD k ru0).2.1 = A at *
        generalize (l.getD k ru0).2.2 = B at *
        by_cases h0 : chkRule kd A B = 0
        · have H0 := hd h0
          clear h0
          go_wp2_with fail
          refine (refRule_any kd A B _).mono ?_
          rw [H0.out]
          rintro e w' ⟨rfl, hb2⟩
          have HB2 := hd (HB.out.trans (hb2.mono HB.out.size))
          clear hb2
          go_wp2_with fail
          go_roundw
          case rel => exact ⟨k + 1, by omega, by go_num, HB2.out, hd (fun j hj => if e : j = k then by rw [e, HE.out, H0.out] else HZ.out j (by omega))⟩
          case measure => simp [intOf]; omega
        · have H1 : (chkRule kd A B != 0) = true := by simpa using h0
          have HR := hd (show chkRules l = chkRule kd A B from by
            rw [HV.out, fst0_at (ruErr l) k (by simpa [ruErr] using hlt) HZ.out (by rw [HE.out]; exact h0), HE.out])
          clear h0
          go_wp2_with fail
          refine (refRule_any kd A B _).mono ?_
          rintro e w' ⟨rfl, hb2⟩
          have HB2 := hd (HB.out.trans (hb2.mono HB.out.size))
          clear hb2
          go_wp2_with fail
          go_returns
          exact ⟨by rw [HR.out]; rfl, HB2.out⟩
      · have HR := hd (show chkRules l = 0 from by rw [HV.out]; exact fst0_none (ruErr l) (fun j hj => HZ.out j (by simp [ruErr] at hj; omega)))
        have HB := hd hb
        clear hb
        go_wp2_with fail
        go_returns
        exact ⟨by rw [HR.out]; rfl, HB.out⟩
end Go.Proofs.YtnncmaegmlaabaaGreatDoor
