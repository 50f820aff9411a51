/-
  The reference's CheckRule and CheckRules, Short and ShortRules.
  Contract of the statements' IsName. Condition: none but the size of a string.
  The reference's CheckName and CheckRecord, of every record whose name is no longer than memory holds.
-/
import Derived.Test.YtkgkpcmokmhakaaGreatDoorProg
import Derived.Test.YtkgkpcmokmhakaaGreatDoorME
import Derived.Test.YtkgkpcmokmhakaaGreatDoorMI
import Derived.Test.YtkgkpcmokmhakaaGreatDoorOpm
import Derived.Test.YtkgkpcmokmhakaaGreatDoorMC
import Derived.Test.YtkgkpcmokmhakaaGreatDoorQ2
import Derived.BigQuiet

namespace Go.Proofs.YtkgkpcmokmhakaaGreatDoor
open Go.RowKit
attribute [local go_sem] Oper.semAt_some

theorem str_eq (kd : ByteArray) (a : Array UInt8) (b : Bool) (h : (kd == ⟨a⟩) = b) : (kd.toList == a.toList) = b := by
  have e : (kd == ⟨a⟩) = (kd.data == a) := by cases kd; rfl
  rw [← h, e, ByteArray.toList_eq, Bool.eq_iff_iff, beq_iff_eq, beq_iff_eq]
  exact Array.toList_inj

set_option maxRecDepth 1000000 in
set_option maxHeartbeats 2000000 in
theorem refRule_any (kd : ByteArray) (A B : Int) (w : World) : Calls Tryz.prog 27 #[.agg #[.string kd, .int .i64 A, .int .i64 B]] w fun e w' => e = .returned (.int .i64 (chkRule kd A B)) ∧ Below w.heap.size w w' := by
  cases h1 : kd == sRange
  · cases h2 : kd == sJump
    · cases h3 : kd == sStuck
      · have g1 : (kd.toList == [114, 97, 110, 103, 101]) = false := str_eq kd #[114, 97, 110, 103, 101] false h1
        have g2 : (kd.toList == [106, 117, 109, 112]) = false := str_eq kd #[106, 117, 109, 112] false h2
        have g3 : (kd.toList == [115, 116, 117, 99, 107]) = false := str_eq kd #[115, 116, 117, 99, 107] false h3
        have HC := hd (show chkRule kd A B = 13 by simp [chkRule, h1, h2, h3])
        clear h1 h2 h3
        go_enter Tryz.func27, Tryz.ntmps27
        go_wp2_with fail
        go_returns
        exact ⟨by rw [HC.out]; rfl, (Below.refl _ w).alloc (Nat.le_refl _) _⟩
      · have g1 : (kd.toList == [114, 97, 110, 103, 101]) = false := str_eq kd #[114, 97, 110, 103, 101] false h1
        have g2 : (kd.toList == [106, 117, 109, 112]) = false := str_eq kd #[106, 117, 109, 112] false h2
        have g3 : (kd.toList == [115, 116, 117, 99, 107]) = true := str_eq kd #[115, 116, 117, 99, 107] true h3
        have HC := hd (show chkRule kd A B = chkSt A B by simp [chkRule, h1, h2, h3])
        clear h1 h2 h3
        go_enter Tryz.func27, Tryz.ntmps27
        go_wp2_with fail
        have c1 := World.cell?_alloc_new w #[.string kd, .int .i64 A, .int .i64 B] 33 1
        have c2 := World.cell?_alloc_new w #[.string kd, .int .i64 A, .int .i64 B] 33 2
        have hsz : w.heap.size < (w.alloc (Obj.cells #[.string kd, .int .i64 A, .int .i64 B] 33)).heap.size := by simp
        have hb1 : Below w.heap.size w (w.alloc (Obj.cells #[.string kd, .int .i64 A, .int .i64 B] 33)) := (Below.refl _ w).alloc (Nat.le_refl _) _
        generalize (w.alloc (Obj.cells #[.string kd, .int .i64 A, .int .i64 B] 33)) = W1 at c1 c2 hsz hb1 ⊢
        have F1 : ∀ p : Bw W1, p.out.cell? ⟨w.heap.size, 1, none⟩ = some (.int .i64 A) := fun p => p.cell hsz (by simpa using c1)
        have F2 : ∀ p : Bw W1, p.out.cell? ⟨w.heap.size, 2, none⟩ = some (.int .i64 B) := fun p => p.cell hsz (by simpa using c2)
        clear c1 c2
        refine wp_region_bw_tail 6 (by kernel_rfl) (by kernel_rfl) ?_
        simp only [List.take_succ_cons, List.take_zero, List.drop_succ_cons, List.drop_zero]
        repeat (first | go_big_quiet_step (first | (go_at_call 23; exact Bw.call _ (refRange_any _ _ _ _))))
        refine wpQuiet_nil ?_
        rintro ⟨W2, hB2⟩
        change wpList _ _ _ _ _ W2
        have HB2 := hd (hb1.trans ((hB2.alloc hB2.size (Obj.cells #[.int .i64 (rng A 1 4096), .int .i64 (rng B 0 0)] 3)).mono hb1.size))
        have hR := hd (Rd.new W2 #[.int .i64 (rng A 1 4096), .int .i64 (rng B 0 0)] 3 2 ([rng A 1 4096, rng B 0 0].map (Value.int .i64)) rfl (by decide))
        clear F1 F2 hB2
        go_wp2_with fail
        refine (refFirst_any _ [rng A 1 4096, rng B 0 0] _ hR.out).mono ?_
        rintro e w' ⟨rfl, rfl⟩
        clear hR
        go_wp2_with fail
        go_returns
        exact ⟨by rw [HC.out]; rfl, HB2.out⟩
    · have g1 : (kd.toList == [114, 97, 110, 103, 101]) = false := str_eq kd #[114, 97, 110, 103, 101] false h1
      have g2 : (kd.toList == [106, 117, 109, 112]) = true := str_eq kd #[106, 117, 109, 112] true h2
      have HC := hd (show chkRule kd A B = chkJp A B by simp [chkRule, h1, h2])
      clear h1 h2
      go_enter Tryz.func27, Tryz.ntmps27
      go_wp2_with fail
      have c1 := World.cell?_alloc_new w #[.string kd, .int .i64 A, .int .i64 B] 33 1
      have c2 := World.cell?_alloc_new w #[.string kd, .int .i64 A, .int .i64 B] 33 2
      have hsz : w.heap.size < (w.alloc (Obj.cells #[.string kd, .int .i64 A, .int .i64 B] 33)).heap.size := by simp
      have hb1 : Below w.heap.size w (w.alloc (Obj.cells #[.string kd, .int .i64 A, .int .i64 B] 33)) := (Below.refl _ w).alloc (Nat.le_refl _) _
      generalize (w.alloc (Obj.cells #[.string kd, .int .i64 A, .int .i64 B] 33)) = W1 at c1 c2 hsz hb1 ⊢
      have F1 : ∀ p : Bw W1, p.out.cell? ⟨w.heap.size, 1, none⟩ = some (.int .i64 A) := fun p => p.cell hsz (by simpa using c1)
      have F2 : ∀ p : Bw W1, p.out.cell? ⟨w.heap.size, 2, none⟩ = some (.int .i64 B) := fun p => p.cell hsz (by simpa using c2)
      clear c1 c2
      refine wp_region_bw_tail 6 (by kernel_rfl) (by kernel_rfl) ?_
      simp only [List.take_succ_cons, List.take_zero, List.drop_succ_cons, List.drop_zero]
      repeat (first | go_big_quiet_step (first | (go_at_call 23; exact Bw.call _ (refRange_any _ _ _ _))))
      refine wpQuiet_nil ?_
      rintro ⟨W2, hB2⟩
      change wpList _ _ _ _ _ W2
      have HB2 := hd (hb1.trans ((hB2.alloc hB2.size (Obj.cells #[.int .i64 (rng A 0 2048), .int .i64 (rng B 0 0)] 3)).mono hb1.size))
      have hR := hd (Rd.new W2 #[.int .i64 (rng A 0 2048), .int .i64 (rng B 0 0)] 3 2 ([rng A 0 2048, rng B 0 0].map (Value.int .i64)) rfl (by decide))
      clear F1 F2 hB2
      go_wp2_with fail
      refine (refFirst_any _ [rng A 0 2048, rng B 0 0] _ hR.out).mono ?_
      rintro e w' ⟨rfl, rfl⟩
      clear hR
      go_wp2_with fail
      go_returns
      exact ⟨by rw [HC.out]; rfl, HB2.out⟩
  · have g1 : (kd.toList == [114, 97, 110, 103, 101]) = true := str_eq kd #[114, 97, 110, 103, 101] true h1
    have HC := hd (show chkRule kd A B = chkRg A B by simp [chkRule, h1])
    clear h1
    go_enter Tryz.func27, Tryz.ntmps27
    go_wp2_with fail
    have c1 := World.cell?_alloc_new w #[.string kd, .int .i64 A, .int .i64 B] 33 1
    have c2 := World.cell?_alloc_new w #[.string kd, .int .i64 A, .int .i64 B] 33 2
    have hsz : w.heap.size < (w.alloc (Obj.cells #[.string kd, .int .i64 A, .int .i64 B] 33)).heap.size := by simp
    have hb1 : Below w.heap.size w (w.alloc (Obj.cells #[.string kd, .int .i64 A, .int .i64 B] 33)) := (Below.refl _ w).alloc (Nat.le_refl _) _
    generalize (w.alloc (Obj.cells #[.string kd, .int .i64 A, .int .i64 B] 33)) = W1 at c1 c2 hsz hb1 ⊢
    have F1 : ∀ p : Bw W1, p.out.cell? ⟨w.heap.size, 1, none⟩ = some (.int .i64 A) := fun p => p.cell hsz (by simpa using c1)
    have F2 : ∀ p : Bw W1, p.out.cell? ⟨w.heap.size, 2, none⟩ = some (.int .i64 B) := fun p => p.cell hsz (by simpa using c2)
    clear c1 c2
    refine wp_region_bw_tail 8 (by kernel_rfl) (by kernel_rfl) ?_
    simp only [List.take_succ_cons, List.take_zero, List.drop_succ_cons, List.drop_zero]
    repeat (first | go_big_quiet_step (first | (go_at_call 23; exact Bw.call _ (refRange_any _ _ _ _))))
    refine wpQuiet_nil ?_
    rintro ⟨W2, hB2⟩
    change wpList _ _ _ _ _ W2
    have HB2 := hd (hb1.trans ((hB2.alloc hB2.size (Obj.cells #[.int .i64 (rng A (-1024) 1024), .int .i64 (rng B A 1024)] 3)).mono hb1.size))
    have hR := hd (Rd.new W2 #[.int .i64 (rng A (-1024) 1024), .int .i64 (rng B A 1024)] 3 2 ([rng A (-1024) 1024, rng B A 1024].map (Value.int .i64)) rfl (by decide))
    clear F1 F2 hB2
    go_wp2_with fail
    refine (refFirst_any _ [rng A (-1024) 1024, rng B A 1024] _ hR.out).mono ?_
    rintro e w' ⟨rfl, rfl⟩
    clear hR
    go_wp2_with fail
    go_returns
    exact ⟨by rw [HC.out]; rfl, HB2.out⟩

set_option maxRecDepth 1000000 in
set_option maxHeartbeats 2000000 in
theorem refRules_any (sl : Value) (l : List Ru) (w : World) (h : Rd w w.heap.size sl l.length (ruc l)) :
    Calls Tryz.prog 6 #[sl] w fun e w' => e = .returned (.int .i64 (chkRules l)) ∧ Below w.heap.size w w' := by
  obtain ⟨A, c, rfl, hc1, hc2, hc⟩ := h
  unfold maxLen at hc2
  have HC := hd hc
  clear hc
  by_cases h8 : 8 < l.length
  · have HV := hd (show chkRules l = 5 by simp [chkRules, h8])
    have h8' : (8 : Int) < (l.length : Int) := by omega
    go_enter Tryz.func6, Tryz.ntmps6
    go_wp2
    go_returns
    exact ⟨by rw [HV.out]; rfl, Below.refl _ _⟩
  · have HV := hd (show chkRules l = fst0 (ruErr l) by simp [chkRules, h8])
    have h8' : ¬ (8 : Int) < (l.length : Int) := by omega
    go_enter Tryz.func6, Tryz.ntmps6
    go_wp2
    go_loopw [3] (fun i wr => ∃ k : Nat, k ≤ l.length ∧ i = .int .i64 k ∧ Below w.heap.size w wr ∧ Hid (∀ j, j < k → (ruErr l).getD j 0 = 0)) (fun i _ => l.length - (intOf i).toNat)
    case atStart => exact ⟨0, Nat.zero_le _, rfl, Below.refl _ _, hd (fun j hj => absurd hj (by omega))⟩
    case round =>
      obtain ⟨k, hk, rfl, hb, HZ⟩ := hrel
      by_cases hlt : k < l.length
      · obtain ⟨b, off, rfl, hbb, hcell⟩ := HC.out (by omega)
        obtain ⟨q0, q1, q2⟩ := ruc_getD l k hlt
        have hs0 := (hb.cell (p := ⟨b, _, none⟩) hbb).trans ((hcell (k * 3) (by rw [ruc_len]; omega)).trans q0)
        have hs1 := (hb.cell (p := ⟨b, _, none⟩) hbb).trans ((hcell (k * 3 + 1) (by rw [ruc_len]; omega)).trans q1)
        have hs2 := (hb.cell (p := ⟨b, _, none⟩) hbb).trans ((hcell (k * 3 + 2) (by rw [ruc_len]; omega)).trans q2)
        rw [← Nat.add_assoc] at hs1 hs2
        have HE := hd (ruErr_at l k hlt)
        have HB := hd hb
        clear hcell q0 q1 q2 hb
        generalize (l.getD k ru0).1 = kd at *
        generalize (l.getD k ru0).2.1 = A at *
        generalize (l.getD k ru0).2.2 = B at *
        by_cases h0 : chkRule kd A B = 0
        · have H0 := hd h0
          clear h0
          go_wp2_with fail
          refine (refRule_any kd A B _).mono ?_
          rw [H0.out]
          rintro e w' ⟨rfl, hb2⟩
          have HB2 := hd (HB.out.trans (hb2.mono HB.out.size))
          clear hb2
          go_wp2_with fail
          go_roundw
          case rel => exact ⟨k + 1, by omega, by go_num, HB2.out, hd (fun j hj => if e : j = k then by rw [e, HE.out, H0.out] else HZ.out j (by omega))⟩
          case measure => simp [intOf]; omega
        · have H1 : (chkRule kd A B != 0) = true := by simpa using h0
          have HR := hd (show chkRules l = chkRule kd A B from by
            rw [HV.out, fst0_at (ruErr l) k (by simpa [ruErr] using hlt) HZ.out (by rw [HE.out]; exact h0), HE.out])
          clear h0
          go_wp2_with fail
          refine (refRule_any kd A B _).mono ?_
          rintro e w' ⟨rfl, hb2⟩
          have HB2 := hd (HB.out.trans (hb2.mono HB.out.size))
          clear hb2
          go_wp2_with fail
          go_returns
          exact ⟨by rw [HR.out]; rfl, HB2.out⟩
      · have HR := hd (show chkRules l = 0 from by rw [HV.out]; exact fst0_none (ruErr l) (fun j hj => HZ.out j (by simp [ruErr] at hj; omega)))
        have HB := hd hb
        clear hb
        go_wp2_with fail
        go_returns
        exact ⟨by rw [HR.out]; rfl, HB.out⟩
end Go.Proofs.YtkgkpcmokmhakaaGreatDoor

namespace Go.Proofs.YtkgkpcmokmhakaaGreatDoor
open Go.RowKit
attribute [local go_sem] Oper.semAt_some

theorem nameAt_yes {k : Nat} {c : Int} (h : (97 ≤ c ∧ c ≤ 122) ∨ (65 ≤ c ∧ c ≤ 90) ∨ (0 < k ∧ ((48 ≤ c ∧ c ≤ 57) ∨ c = 95))) : nameAt k c = true := by
  unfold nameAt isLet isDig
  simp only [Bool.or_eq_true, Bool.and_eq_true, decide_eq_true_eq]
  omega
theorem nameAt_no {k : Nat} {c : Int} (h : ¬((97 ≤ c ∧ c ≤ 122) ∨ (65 ≤ c ∧ c ≤ 90) ∨ (0 < k ∧ ((48 ≤ c ∧ c ≤ 57) ∨ c = 95)))) : nameAt k c = false := by
  rw [Bool.eq_false_iff]
  unfold nameAt isLet isDig
  simp only [ne_eq, Bool.or_eq_true, Bool.and_eq_true, decide_eq_true_eq]
  omega
set_option maxRecDepth 1000000 in
set_option maxHeartbeats 4000000 in
theorem refIsName_any (s : ByteArray) (w : World) (hs : s.size ≤ maxLen) : Calls Tryz.prog 54 #[.string s] w fun e w' => e = .returned (.bool (nameB s)) ∧ Below w.heap.size w w' := by
  unfold maxLen at hs
  by_cases h0 : s.size = 0
  · have HN := hd (nameB_no s (.inl h0))
    go_enter Tryz.func54, Tryz.ntmps54
    go_wp2
    go_returns
    exact ⟨(by rw [HN.out]; first | done | rfl), Below.refl _ _⟩
  · have h0' : ((s.size : Int) == 0) = false := by rw [beq_eq_false_iff_ne]; omega
    have hp : 0 < s.size := by omega
    clear h0
    by_cases h1 : 24 < s.size
    · have HN := hd (nameB_no s (.inr h1))
      have h1' : ¬ (s.size : Int) ≤ 24 := by omega
      go_enter Tryz.func54, Tryz.ntmps54
      go_wp2
      go_returns
      exact ⟨(by rw [HN.out]; first | done | rfl), Below.refl _ _⟩
    · have h1' : (s.size : Int) ≤ 24 := by omega
      go_enter Tryz.func54, Tryz.ntmps54
      go_wp2
      go_loopw [3] (fun i wr => ∃ k : Nat, k ≤ s.size ∧ i = .int .i64 k ∧ wr = w ∧ Hid (∀ i, ∀ hi : i < s.size, i < k → nameAt i ((s[i]'hi).toNat : Int) = true)) (fun i _ => s.size - (intOf i).toNat)
      case atStart => exact ⟨0, Nat.zero_le _, rfl, rfl, hd (fun i hi h => absurd h (by omega))⟩
      case round =>
        obtain ⟨k, hk, rfl, rfl, HP⟩ := hrel
        by_cases hlt : k < s.size
        · have hki : (k : Int) < (s.size : Int) := by omega
          obtain ⟨c, hc⟩ : ∃ c : Int, ((s[k]'hlt).toNat : Int) = c := ⟨_, rfl⟩
          have hc0 : 0 ≤ c := by omega
          have hc1 : c < 256 := by have := (s[k]'hlt).toNat_lt; omega
          have HC := hd hc
          have hstep : nameAt k c = true → Hid (∀ i, ∀ hi : i < s.size, i < k + 1 → nameAt i ((s[i]'hi).toNat : Int) = true) := fun h i hi hlt => by
            by_cases e : i = k
            · subst e; rw [hc]; exact h
            · exact HP.out i hi (by omega)
          have hstop : nameAt k c = false → nameB s = false := fun h => nameB_at s k hlt (by rw [hc]; exact h)
          by_cases r1 : c < 48
          · have b1 : (c != 95) = true := by rw [bne_iff_ne]; omega
            by_cases hk0 : k = 0
            · subst hk0
              have HN := hd (hstop (nameAt_no (by omega)))
              clear hstep hstop HP
              go_wp2
              go_returns
              exact ⟨(by rw [HN.out]; first | done | rfl), Below.refl _ _⟩
            · have b0 : ((k : Int) == 0) = false := by rw [beq_eq_false_iff_ne]; omega
              have HN := hd (hstop (nameAt_no (by omega)))
              clear hstep hstop HP
              go_wp2
              go_returns
              exact ⟨(by rw [HN.out]; first | done | rfl), Below.refl _ _⟩
          · by_cases r2 : c ≤ 57
            · have b1 : (c != 95) = true := by rw [bne_iff_ne]; omega
              by_cases hk0 : k = 0
              · subst hk0
                have HN := hd (hstop (nameAt_no (by omega)))
                clear hstep hstop HP
                go_wp2
                go_returns
                exact ⟨(by rw [HN.out]; first | done | rfl), Below.refl _ _⟩
              · have b0 : ((k : Int) == 0) = false := by rw [beq_eq_false_iff_ne]; omega
                have HY := hstep (nameAt_yes (by omega))
                clear hstep hstop HP
                go_wp2
                go_roundw
                case rel => exact ⟨k + 1, by omega, by go_num, trivial, HY⟩
                case measure => simp [intOf]; omega
            · by_cases r3 : c < 65
              · have b1 : (c != 95) = true := by rw [bne_iff_ne]; omega
                by_cases hk0 : k = 0
                · subst hk0
                  have HN := hd (hstop (nameAt_no (by omega)))
                  clear hstep hstop HP
                  go_wp2
                  go_returns
                  exact ⟨(by rw [HN.out]; first | done | rfl), Below.refl _ _⟩
                · have b0 : ((k : Int) == 0) = false := by rw [beq_eq_false_iff_ne]; omega
                  have HN := hd (hstop (nameAt_no (by omega)))
                  clear hstep hstop HP
                  go_wp2
                  go_returns
                  exact ⟨(by rw [HN.out]; first | done | rfl), Below.refl _ _⟩
              · by_cases r4 : c ≤ 90
                · have HY := hstep (nameAt_yes (by omega))
                  clear hstep hstop HP
                  go_wp2
                  go_roundw
                  case rel => exact ⟨k + 1, by omega, by go_num, trivial, HY⟩
                  case measure => simp [intOf]; omega
                · by_cases r5 : c < 97
                  · by_cases r6 : c = 95
                    · subst r6
                      by_cases hk0 : k = 0
                      · subst hk0
                        have HN := hd (hstop (nameAt_no (by omega)))
                        clear hstep hstop HP
                        go_wp2
                        go_returns
                        exact ⟨(by rw [HN.out]; first | done | rfl), Below.refl _ _⟩
                      · have b0 : ((k : Int) == 0) = false := by rw [beq_eq_false_iff_ne]; omega
                        have HY := hstep (nameAt_yes (by omega))
                        clear hstep hstop HP
                        go_wp2
                        go_roundw
                        case rel => exact ⟨k + 1, by omega, by go_num, trivial, HY⟩
                        case measure => simp [intOf]; omega
                    · have b1 : (c != 95) = true := by rw [bne_iff_ne]; exact r6
                      by_cases hk0 : k = 0
                      · subst hk0
                        have HN := hd (hstop (nameAt_no (by omega)))
                        clear hstep hstop HP
                        go_wp2
                        go_returns
                        exact ⟨(by rw [HN.out]; first | done | rfl), Below.refl _ _⟩
                      · have b0 : ((k : Int) == 0) = false := by rw [beq_eq_false_iff_ne]; omega
                        have HN := hd (hstop (nameAt_no (by omega)))
                        clear hstep hstop HP
                        go_wp2
                        go_returns
                        exact ⟨(by rw [HN.out]; first | done | rfl), Below.refl _ _⟩
                  · by_cases r7 : c ≤ 122
                    · have HY := hstep (nameAt_yes (by omega))
                      clear hstep hstop HP
                      go_wp2
                      go_roundw
                      case rel => exact ⟨k + 1, by omega, by go_num, trivial, HY⟩
                      case measure => simp [intOf]; omega
                    · have b1 : (c != 95) = true := by rw [bne_iff_ne]; omega
                      by_cases hk0 : k = 0
                      · subst hk0
                        have HN := hd (hstop (nameAt_no (by omega)))
                        clear hstep hstop HP
                        go_wp2
                        go_returns
                        exact ⟨(by rw [HN.out]; first | done | rfl), Below.refl _ _⟩
                      · have b0 : ((k : Int) == 0) = false := by rw [beq_eq_false_iff_ne]; omega
                        have HN := hd (hstop (nameAt_no (by omega)))
                        clear hstep hstop HP
                        go_wp2
                        go_returns
                        exact ⟨(by rw [HN.out]; first | done | rfl), Below.refl _ _⟩
        · obtain rfl : k = s.size := by omega
          have HN := hd (nameB_yes s (by omega) (by omega) (fun i hi => HP.out i hi hi))
          clear HP
          go_wp2
          go_returns
          exact ⟨(by rw [HN.out]; first | done | rfl), Below.refl _ _⟩
end Go.Proofs.YtkgkpcmokmhakaaGreatDoor

namespace Go.Proofs.YtkgkpcmokmhakaaGreatDoor
open Go.RowKit
attribute [local go_sem] Oper.semAt_some

set_option maxRecDepth 1000000 in
theorem refName_any (nm : ByteArray) (w : World) (hs : nm.size ≤ maxLen) : Calls Tryz.prog 22 #[.string nm] w fun e w' => e = .returned (.int .i64 (unl (nameB nm) 8)) ∧ Below w.heap.size w w' := by
  have CN := hd (refIsName_any nm w hs)
  generalize nameB nm = nb at CN
  clear hs
  cases nb
  all_goals
    go_enter Tryz.func22, Tryz.ntmps22
    go_wp2_with (go_at_call 54; refine CN.out.mono ?_; rintro e w' ⟨rfl, hb⟩; have HB := hd hb; clear hb)
    go_returns
    exact ⟨rfl, HB.out⟩

theorem below_dr {B : Nat} {a w : World} (h : Below B a w) (k : Nat) : Below B a (w.drewN k) := ⟨h.os, h.tape, h.output, h.size, h.block⟩

theorem rec1_bad {nm : ByteArray} {st e : Int} {n : Nat} (h : fst0 [unl (nameB nm) 8, rng st 0 100000] = e) (h0 : ¬ e = 0) : rec1 nm st n = e := by
  unfold rec1
  by_cases h1 : unl (nameB nm) 8 = 0
  · by_cases h2 : rng st 0 100000 = 0
    · exact absurd (by rw [← h]; simp [fst0, h1, h2]) h0
    · rw [← h]; simp [fst0, h1, h2]
  · rw [← h]; simp [fst0, h1]
theorem rec1_many {nm : ByteArray} {st : Int} {n : Nat} (h : fst0 [unl (nameB nm) 8, rng st 0 100000] = 0) (hn : 4096 < n) : rec1 nm st n = 5 := by
  have h1 : unl (nameB nm) 8 = 0 := fst0_each h 0 (by simp)
  have h2 : rng st 0 100000 = 0 := fst0_each h 1 (by simp)
  have h3 : Go.Proofs.YtkgkpcmokmhakaaGreatDoor.most (n : Int) 4096 = 5 := by unfold Go.Proofs.YtkgkpcmokmhakaaGreatDoor.most; rw [if_neg (by omega)]
  unfold rec1
  simp [fst0, h1, h2, h3]
theorem rec1_fine {nm : ByteArray} {st : Int} {n : Nat} (h : fst0 [unl (nameB nm) 8, rng st 0 100000] = 0) (hn : n ≤ 4096) : rec1 nm st n = 0 := by
  have h1 : unl (nameB nm) 8 = 0 := fst0_each h 0 (by simp)
  have h2 : rng st 0 100000 = 0 := fst0_each h 1 (by simp)
  have h3 : Go.Proofs.YtkgkpcmokmhakaaGreatDoor.most (n : Int) 4096 = 0 := by unfold Go.Proofs.YtkgkpcmokmhakaaGreatDoor.most; rw [if_pos (by omega)]
  unfold rec1
  simp [fst0, h1, h2, h3]
theorem rec2_lev {bs : List Nat} {gs : List (Int × Int)} (h : ¬ fst0 (levErr bs) = 0) : rec2 bs gs = fst0 (levErr bs) := by unfold rec2; simp [fst0, h]
theorem rec2_spans {bs : List Nat} {gs : List (Int × Int)} (h1 : fst0 (levErr bs) = 0) (h : ¬ chkSpans gs = 0) : rec2 bs gs = chkSpans gs := by unfold rec2; simp [fst0, h1, h]
theorem end_val (l : List (Int × Int)) (h : chkSpans l = 0) (n : Int) (k : Nat) (hk : k < l.length) : endAt n (l.getD k (0, 0)).1 (l.getD k (0, 0)).2 = if (l.getD k (0, 0)).2 ≤ n then 0 else 14 := by
  have := (chkSpans_ok l h).2.1 _ (getD_mem l k hk)
  unfold endAt
  by_cases h2 : (l.getD k (0, 0)).2 ≤ n
  · rw [if_pos (by omega), if_pos h2]
  · rw [if_neg (by omega), if_neg h2]
theorem rec2_end {bs : List Nat} {gs : List (Int × Int)} (h1 : fst0 (levErr bs) = 0) (h : chkSpans gs = 0) (k : Nat) (hk : k < gs.length) (hz : ∀ j, j < k → (gs.getD j (0, 0)).2 ≤ (bs.length : Int)) (hb : ¬ (gs.getD k (0, 0)).2 ≤ (bs.length : Int)) : rec2 bs gs = 14 := by
  have h14 : fst0 (endErr (bs.length : Int) gs) = 14 := by
    rw [fst0_at (endErr _ gs) k (by simpa [endErr] using hk) (fun j hj => by rw [endErr_at _ gs j (by omega), end_val gs h _ j (by omega), if_pos (hz j hj)]) (by rw [endErr_at _ gs k hk, end_val gs h _ k hk, if_neg hb]; decide)]
    rw [endErr_at _ gs k hk, end_val gs h _ k hk, if_neg hb]
  unfold rec2
  simp [fst0, h1, h, h14]
theorem rec2_fine {bs : List Nat} {gs : List (Int × Int)} (h1 : fst0 (levErr bs) = 0) (h : chkSpans gs = 0) (hz : ∀ j, j < gs.length → (gs.getD j (0, 0)).2 ≤ (bs.length : Int)) : rec2 bs gs = 0 := by
  have h0 : fst0 (endErr (bs.length : Int) gs) = 0 := fst0_none _ fun j hj => by
    have hj' : j < gs.length := by simpa [endErr] using hj
    rw [endErr_at _ gs j hj', end_val gs h _ j hj', if_pos (hz j hj')]
  unfold rec2
  simp [fst0, h1, h, h0]
theorem silB_no {bs : List Nat} {gs : List (Int × Int)} {i : Nat} (hi : i < bs.length) (h1 : zeroF (bs.getD i 0) = false) (h2 : hasL gs i = true) : silB bs gs = false := by
  obtain ⟨s, hs, h3, h4⟩ := hasL_true.1 h2
  rw [Bool.eq_false_iff]
  intro h
  unfold silB at h
  rw [List.all_eq_true] at h
  have h5 := h s hs
  rw [List.all_eq_true] at h5
  have h6 := h5 i (List.mem_range.2 hi)
  rw [decide_eq_true h3, decide_eq_true h4, h1] at h6
  cases h6
theorem silB_yes {bs : List Nat} {gs : List (Int × Int)} (h : ∀ i, i < bs.length → zeroF (bs.getD i 0) = true ∨ hasL gs i = false) : silB bs gs = true := by
  unfold silB
  rw [List.all_eq_true]
  intro s hs
  rw [List.all_eq_true]
  intro i hi
  rcases h i (List.mem_range.1 hi) with h1 | h1
  · rw [h1, Bool.or_true]
  · have := hasL_false.1 h1 s hs
    have e : (decide (s.1 ≤ (i : Int)) && decide ((i : Int) < s.2)) = false := by
      rw [Bool.and_eq_false_iff, decide_eq_false_iff_not, decide_eq_false_iff_not]; omega
    rw [e]; rfl

set_option maxRecDepth 1000000 in
set_option maxHeartbeats 4000000 in
theorem refRec_any (nm : ByteArray) (st : Int) (lv gv : Value) (bs : List Nat) (l : List (Int × Int)) (w : World) (hl : Rd w w.heap.size lv bs.length (flc bs)) (hg : Rd w w.heap.size gv l.length (spc l)) (hs : nm.size ≤ maxLen) :
    Calls Tryz.prog 5 #[.agg #[.string nm, .int .i64 st, lv, gv]] w fun e w' => e = .returned (.int .i64 (chkRec nm st bs l)) ∧ Below w.heap.size w w' := by
  have HLr := hd hl
  have HGr := hd hg
  have hl2 := hl
  have hg2 := hg
  obtain ⟨A, c, rfl, hc1, hc2, -⟩ := hl2
  obtain ⟨A2, c2, rfl, hc3, hc4, -⟩ := hg2
  unfold maxLen at hc2 hc4
  have CN := hd (fun W => refName_any nm W hs)
  clear hl hg hs
  go_enter Tryz.func5, Tryz.ntmps5
  go_wp2
  have c0' := World.cell?_alloc_new w #[.string nm, .int .i64 st, .slice A bs.length c, .slice A2 l.length c2] 25 0
  have c1' := World.cell?_alloc_new w #[.string nm, .int .i64 st, .slice A bs.length c, .slice A2 l.length c2] 25 1
  have c2' := World.cell?_alloc_new w #[.string nm, .int .i64 st, .slice A bs.length c, .slice A2 l.length c2] 25 2
  have c3' := World.cell?_alloc_new w #[.string nm, .int .i64 st, .slice A bs.length c, .slice A2 l.length c2] 25 3
  have hsz : w.heap.size < (w.alloc (Obj.cells #[.string nm, .int .i64 st, .slice A bs.length c, .slice A2 l.length c2] 25)).heap.size := by simp
  have hb1 : Below w.heap.size w (w.alloc (Obj.cells #[.string nm, .int .i64 st, .slice A bs.length c, .slice A2 l.length c2] 25)) := (Below.refl _ w).alloc (Nat.le_refl _) _
  generalize (w.alloc (Obj.cells #[.string nm, .int .i64 st, .slice A bs.length c, .slice A2 l.length c2] 25)) = W1 at c0' c1' c2' c3' hsz hb1 ⊢
  have F0 : ∀ p : Bw W1, p.out.cell? ⟨w.heap.size, 0, none⟩ = some (.string nm) := fun p => p.cell hsz (by simpa using c0')
  have F1 : ∀ p : Bw W1, p.out.cell? ⟨w.heap.size, 1, none⟩ = some (.int .i64 st) := fun p => p.cell hsz (by simpa using c1')
  have F2 := hd (fun p : Bw W1 => show p.out.cell? ⟨w.heap.size, 2, none⟩ = some (.slice A bs.length c) from p.cell hsz (by simpa using c2'))
  have F3 := hd (fun p : Bw W1 => show p.out.cell? ⟨w.heap.size, 3, none⟩ = some (.slice A2 l.length c2) from p.cell hsz (by simpa using c3'))
  clear c0' c1' c2' c3'
  obtain ⟨nb, hnb⟩ : ∃ x, x = unl (nameB nm) 8 := ⟨_, rfl⟩
  have HNB := hd hnb
  replace CN := hd (fun W => show Calls Tryz.prog 22 #[.string nm] W fun e w' => e = .returned (.int .i64 nb) ∧ Below W.heap.size W w' from by rw [hnb]; exact CN.out W)
  clear hnb
  refine wp_region_bw_tail 6 (by kernel_rfl) (by kernel_rfl) ?_
  simp only [List.take_succ_cons, List.take_zero, List.drop_succ_cons, List.drop_zero]
  repeat (first | go_big_quiet_step (first | (go_at_call 22; exact Bw.call _ (CN.out _)) | (go_at_call 23; exact Bw.call _ (refRange_any _ _ _ _))))
  refine wpQuiet_nil ?_
  rintro ⟨W2, hB2⟩
  change wpList _ _ _ _ _ W2
  obtain ⟨r1, hr1⟩ : ∃ x, x = rng st 0 100000 := ⟨_, rfl⟩
  have HR1 := hd hr1
  rw [← hr1]
  have hR := hd (Rd.new W2 #[.int .i64 nb, .int .i64 r1] 3 2 ([nb, r1].map (Value.int .i64)) rfl (by decide))
  have hbW : Below W1.heap.size W1 (W2.alloc (Obj.cells #[.int .i64 nb, .int .i64 r1] 3)) := hB2.alloc hB2.size _
  clear F0 F1 hB2 hr1
  obtain ⟨E, hE⟩ : ∃ E, fst0 [nb, r1] = E := ⟨_, rfl⟩
  have HE := hd hE
  go_wp2_with fail
  refine (refFirst_any _ [nb, r1] _ hR.out).mono ?_
  rw [hE]
  rintro e w' ⟨rfl, rfl⟩
  clear hR hE
  generalize (W2.alloc (Obj.cells #[.int .i64 nb, .int .i64 r1] 3)) = W3 at *
  have G2 := F2.out ⟨W3, hbW⟩
  have G3 := F3.out ⟨W3, hbW⟩
  dsimp only at G2 G3
  have hlt3 : w.heap.size < W3.heap.size := Nat.lt_of_lt_of_le hsz hbW.size
  have HW3 := hd (hb1.trans (hbW.mono hb1.size))
  have HV := hd (show fst0 [unl (nameB nm) 8, rng st 0 100000] = E from by rw [← HNB.out, ← HR1.out]; exact HE.out)
  clear F2 F3 hbW hb1 HNB HR1 HE
  by_cases hE0 : E = 0
  · subst hE0
    by_cases hmany : 4096 < bs.length
    · have HC := hd (show chkRec nm st bs l = 5 from by unfold chkRec; rw [rec1_many HV.out hmany, if_neg (by decide)])
      have hm' : (4096 : Int) < (bs.length : Int) := by omega
      go_wp2
      go_returns
      exact ⟨by rw [HC.out]; rfl, HW3.out⟩
    · have hm' : ¬ (4096 : Int) < (bs.length : Int) := by omega
      have HC := hd (show chkRec nm st bs l = if rec2 bs l = 0 then unl (silB bs l) 1 else rec2 bs l from by unfold chkRec; rw [rec1_fine HV.out (by omega), if_pos rfl])
      clear HV
      go_wp2
      go_loopw [4] (fun i wr => ∃ k : Nat, k ≤ bs.length ∧ i = .int .i64 k ∧ Below W3.heap.size W3 wr ∧ Hid (∀ j, j < k → (levErr bs).getD j 0 = 0)) (fun i _ => bs.length - (intOf i).toNat)
      case atStart => exact ⟨0, Nat.zero_le _, rfl, Below.refl _ _, hd (fun j hj => absurd hj (by omega))⟩
      case round =>
        obtain ⟨k, hk, rfl, hb, HZ⟩ := hrel
        have K2 := (hb.cell (p := ⟨w.heap.size, 2, none⟩) hlt3).trans G2
        have HBW := hd (HW3.out.trans (hb.mono HW3.out.size))
        by_cases hlt : k < bs.length
        · obtain ⟨A', c', e1, -, -, hcell⟩ := HLr.out
          cases e1
          obtain ⟨b, off, rfl, hbb, hcell⟩ := hcell (by omega)
          have hx : wr.cell? ⟨b, off + k, none⟩ = some (.float .f32 (bs.getD k 0)) := (HBW.out.cell (p := ⟨b, _, none⟩) hbb).trans ((hcell k (by simpa [flc] using hlt)).trans (flc_at bs k hlt))
          have HE := hd (levErr_at bs k hlt)
          have HBN := hd hb
          clear hcell hb
          generalize bs.getD k 0 = x at hx HE
          by_cases h0 : chkLev x = 0
          · have H0 := hd h0
            clear h0
            go_wp2_with fail
            refine (rLev_any x _).mono ?_
            rw [H0.out]
            rintro e w' ⟨rfl, hb2⟩
            have HB2 := hd (HBN.out.trans (hb2.mono HBN.out.size))
            clear hb2
            go_wp2_with fail
            go_roundw
            case rel => exact ⟨k + 1, by omega, by go_num, HB2.out, hd (fun j hj => if e : j = k then by rw [e, HE.out, H0.out] else HZ.out j (by omega))⟩
            case measure => simp [intOf]; omega
          · have H1 : (chkLev x != 0) = true := by simpa using h0
            have HR := hd (show chkRec nm st bs l = chkLev x from by
              have e : fst0 (levErr bs) = chkLev x := by rw [fst0_at (levErr bs) k (by simpa [levErr] using hlt) HZ.out (by rw [HE.out]; exact h0), HE.out]
              have e2 : ¬ fst0 (levErr bs) = 0 := by rw [e]; exact h0
              rw [HC.out, rec2_lev e2, if_neg e2, e])
            clear h0
            go_wp2_with fail
            refine (rLev_any x _).mono ?_
            rintro e w' ⟨rfl, hb2⟩
            have HB2 := hd (HBW.out.trans (hb2.mono HBW.out.size))
            clear hb2
            go_wp2_with fail
            go_returns
            exact ⟨by rw [HR.out]; rfl, HB2.out⟩
        · have HL0 := hd (show fst0 (levErr bs) = 0 from fst0_none _ fun j hj => HZ.out j (by simp [levErr] at hj; omega))
          have K3 := (hb.cell (p := ⟨w.heap.size, 3, none⟩) hlt3).trans G3
          have HBN := hd hb
          clear hb HZ
          go_wp2_with fail
          refine (refChkSpans_any _ l _ ((HGr.out.below HBW.out (Nat.le_refl _)).mono HBW.out.size)).mono ?_
          rintro e w4 ⟨rfl, hb4⟩
          have HB4 := hd (HBN.out.trans (hb4.mono HBN.out.size))
          have HW4 := hd (HBW.out.trans (hb4.mono HBW.out.size))
          clear hb4 K2 K3 HBN HBW
          by_cases hsp : chkSpans l = 0
          · have HSP := hd hsp
            rw [hsp]
            clear hsp
            have HSP2 := hd (chkSpans_ok l HSP.out)
            have hlt4 : w.heap.size < w4.heap.size := Nat.lt_of_lt_of_le hlt3 HB4.out.size
            have G2' := (HB4.out.cell (p := ⟨w.heap.size, 2, none⟩) hlt3).trans G2
            have G3' := (HB4.out.cell (p := ⟨w.heap.size, 3, none⟩) hlt3).trans G3
            clear G2 G3 HB4 HW3
            go_wp2_with fail
            go_loopw [7] (fun i wr => ∃ k : Nat, k ≤ l.length ∧ i = .int .i64 k ∧ Below w4.heap.size w4 wr ∧ Hid (∀ j, j < k → (l.getD j (0, 0)).2 ≤ (bs.length : Int))) (fun i _ => l.length - (intOf i).toNat)
            case atStart => exact ⟨0, Nat.zero_le _, rfl, Below.refl _ _, hd (fun j hj => absurd hj (by omega))⟩
            case round =>
              obtain ⟨k, hk, rfl, hb, HZ⟩ := hrel
              have K2 := (hb.cell (p := ⟨w.heap.size, 2, none⟩) hlt4).trans G2'
              have K3 := (hb.cell (p := ⟨w.heap.size, 3, none⟩) hlt4).trans G3'
              have HBW := hd (HW4.out.trans (hb.mono HW4.out.size))
              have HBN := hd hb
              clear hb
              by_cases hlt : k < l.length
              · obtain ⟨A', c', e1, -, -, hcell⟩ := HGr.out
                cases e1
                obtain ⟨b, off, rfl, hbb, hcell⟩ := hcell (by omega)
                have hx : wr.cell? ⟨b, off + k * 2 + 1, none⟩ = some (.int .i64 (l.getD k (0, 0)).2) := (HBW.out.cell (p := ⟨b, _, none⟩) hbb).trans ((hcell (k * 2 + 1) (by rw [spc_len]; omega)).trans (spc_getD l k hlt).2)
                have HT := hd (fun h => rec2_end (bs := bs) HL0.out HSP.out k hlt HZ.out h)
                have HT2 := hd (show (l.getD k (0, 0)).2 ≤ (bs.length : Int) → Hid (∀ j, j < k + 1 → (l.getD j (0, 0)).2 ≤ (bs.length : Int)) from fun h => hd (fun j hj => if e : j = k then by rw [e]; exact h else HZ.out j (by omega)))
                clear hcell
                generalize (l.getD k (0, 0)).2 = t at hx HT HT2
                by_cases ht : t ≤ (bs.length : Int)
                · have HN := HT2.out ht
                  have ht' : ¬ (bs.length : Int) < t := by omega
                  clear HT HT2
                  go_wp2_with fail
                  go_quiet (fail)
                  go_wp2_with fail
                  go_roundw
                  case rel => exact ⟨k + 1, by omega, by go_num, below_dr HBN.out _, HN⟩
                  case measure => simp [intOf]; omega
                · have HR := hd (show chkRec nm st bs l = 14 from by rw [HC.out, HT.out ht, if_neg (by decide)])
                  have ht' : (bs.length : Int) < t := by omega
                  clear HT HT2
                  go_wp2_with fail
                  go_quiet (fail)
                  go_wp2_with fail
                  go_returns
                  exact ⟨by rw [HR.out]; rfl, below_dr HBW.out _⟩
              · have HR2 := hd (show chkRec nm st bs l = unl (silB bs l) 1 from by rw [HC.out, rec2_fine HL0.out HSP.out (fun j hj => HZ.out j (by omega)), if_pos rfl])
                clear HZ HBN
                obtain ⟨w5, rfl⟩ : ∃ x : World, x = wr := ⟨_, rfl⟩
                have hlt5 : w.heap.size < w5.heap.size := World.block_lt_of_cell? _ _ K2
                clear hlt4 hlt3 G2' G3' HW4
                go_wp2_with fail
                go_loopw [8] (fun i wr => ∃ k : Nat, k ≤ bs.length ∧ i = .int .i64 k ∧ Below w5.heap.size w5 wr ∧ Hid (∀ j, j < k → zeroF (bs.getD j 0) = true ∨ hasL l j = false)) (fun i _ => bs.length - (intOf i).toNat)
                case atStart => exact ⟨0, Nat.zero_le _, rfl, Below.refl _ _, hd (fun j hj => absurd hj (by omega))⟩
                case round =>
                  obtain ⟨k, hk, rfl, hb, HZ⟩ := hrel
                  have K2 := (hb.cell (p := ⟨w.heap.size, 2, none⟩) hlt5).trans K2
                  have K3 := (hb.cell (p := ⟨w.heap.size, 3, none⟩) hlt5).trans K3
                  have HBX := hd (HBW.out.trans (hb.mono HBW.out.size))
                  have HBN := hd hb
                  clear hb
                  by_cases hlt : k < bs.length
                  · obtain ⟨A', c', e1, -, -, hcell⟩ := HLr.out
                    cases e1
                    obtain ⟨b, off, rfl, hbb, hcell⟩ := hcell (by omega)
                    have hx : wr.cell? ⟨b, off + k, none⟩ = some (.float .f32 (bs.getD k 0)) := (HBX.out.cell (p := ⟨b, _, none⟩) hbb).trans ((hcell k (by simpa [flc] using hlt)).trans (flc_at bs k hlt))
                    have HN := hd (show zeroF (bs.getD k 0) = true ∨ hasL l k = false → Hid (∀ j, j < k + 1 → zeroF (bs.getD j 0) = true ∨ hasL l j = false) from fun h => hd (fun j hj => if e : j = k then by rw [e]; exact h else HZ.out j (by omega)))
                    have HS := hd (fun h1 h2 => silB_no (bs := bs) (gs := l) hlt h1 h2)
                    clear hcell
                    generalize bs.getD k 0 = x at hx HN HS
                    cases hz : (FloatKind.f32.format.order x 0 != some .eq)
                    · have HN2 := HN.out (.inl (zeroF_true.2 hz))
                      clear HN HS
                      go_wp2_with fail
                      go_roundw
                      case rel => exact ⟨k + 1, by omega, by go_num, HBN.out, HN2⟩
                      case measure => simp [intOf]; omega
                    · have hz0 : zeroF x = false := by unfold zeroF; rw [hz]; rfl
                      have HH := hd (fun W h => has_any (.slice A2 l.length c2) l (k : Int) W h)
                      cases hh : hasL l (k : Int)
                      · have HN2 := HN.out (.inr hh)
                        have HHH := hd hh
                        clear HN HS hh
                        go_wp2_with fail
                        refine (HH.out _ ((HGr.out.below HBX.out (Nat.le_refl _)).mono HBX.out.size)).mono ?_
                        rw [HHH.out]
                        rintro e w' ⟨rfl, rfl⟩
                        go_wp2_with fail
                        go_roundw
                        case rel => exact ⟨k + 1, by omega, by go_num, HBN.out, HN2⟩
                        case measure => simp [intOf]; omega
                      · have HR := hd (show chkRec nm st bs l = 1 from by rw [HR2.out, HS.out hz0 hh]; rfl)
                        have HHH := hd hh
                        clear HN HS hh
                        go_wp2_with fail
                        refine (HH.out _ ((HGr.out.below HBX.out (Nat.le_refl _)).mono HBX.out.size)).mono ?_
                        rw [HHH.out]
                        rintro e w' ⟨rfl, rfl⟩
                        go_wp2_with fail
                        go_returns
                        exact ⟨by rw [HR.out]; rfl, HBX.out⟩
                  · have HR := hd (show chkRec nm st bs l = 0 from by rw [HR2.out, silB_yes (fun i hi => HZ.out i (by omega))]; rfl)
                    go_wp2_with fail
                    go_returns
                    exact ⟨by rw [HR.out]; rfl, HBX.out⟩
          · have HR := hd (show chkRec nm st bs l = chkSpans l from by rw [HC.out, rec2_spans HL0.out hsp, if_neg hsp])
            have hb : (chkSpans l != 0) = true := by simpa using hsp
            go_wp2_with fail
            go_returns
            exact ⟨by rw [HR.out]; rfl, HW4.out⟩
  · have HC := hd (show chkRec nm st bs l = E from by unfold chkRec; rw [rec1_bad HV.out hE0, if_neg hE0])
    have hb : (E != 0) = true := by simpa using hE0
    clear hE0
    go_wp2
    go_returns
    exact ⟨by rw [HC.out]; rfl, HW3.out⟩
end Go.Proofs.YtkgkpcmokmhakaaGreatDoor
