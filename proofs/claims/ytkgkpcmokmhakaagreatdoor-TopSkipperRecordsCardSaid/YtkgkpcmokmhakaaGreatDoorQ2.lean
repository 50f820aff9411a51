/-
  The project's checks of levels and of the ends of gaps, whatever they are; and of silent gaps, of gaps that lie in the record.
  The project's CheckRecord, of every record whose name is no longer than memory holds.
-/

import Derived.Test.YtkgkpcmokmhakaaGreatDoorProg
import Derived.Test.YtkgkpcmokmhakaaGreatDoorFB
import Derived.Test.YtkgkpcmokmhakaaGreatDoorMC
namespace Go.Proofs.YtkgkpcmokmhakaaGreatDoor
open Go.RowKit

def levErr (bs : List Nat) : List Int := bs.map chkLev
theorem levErr_at (bs : List Nat) (k : Nat) (hk : k < bs.length) : (levErr bs).getD k 0 = chkLev (bs.getD k 0) := by simp [levErr, hk]
theorem flc_at (bs : List Nat) (k : Nat) (hk : k < bs.length) : (flc bs)[k]? = some (.float .f32 (bs.getD k 0)) := by simp [flc, hk]

set_option maxRecDepth 100000 in
set_option maxHeartbeats 1000000 in
theorem eachLev_any (sl : Value) (bs : List Nat) (w : World) (h : Rd w w.heap.size sl bs.length (flc bs)) :
    Calls Tryz.prog 70 #[sl, .func (.func 71) #[] #[]] w fun e w' => e = .returned (.int .i64 (fst0 (levErr bs))) ∧ Below w.heap.size w w' := by
  obtain ⟨A, c, rfl, hc1, hc2, hc⟩ := h
  unfold maxLen at hc2
  have HC := hd hc
  clear hc
  go_enter Tryz.func70, Tryz.ntmps70
  go_wp2
  go_loopw [4, 10] (fun _ i wr => ∃ k : Nat, k ≤ bs.length ∧ i = .int .i64 k ∧ Below w.heap.size w wr ∧ Hid (∀ j, j < k → (levErr bs).getD j 0 = 0)) (fun _ i _ => bs.length - (intOf i).toNat)
  case atStart => exact ⟨0, Nat.zero_le _, rfl, Below.refl _ _, hd (fun j hj => absurd hj (by omega))⟩
  case round =>
    obtain ⟨k, hk, rfl, hb, HZ⟩ := hrel
    by_cases hlt : k < bs.length
    · obtain ⟨b, off, rfl, hbb, hcell⟩ := HC.out (by omega)
      have hx : wr.cell? ⟨b, off + k, none⟩ = some (.float .f32 (bs.getD k 0)) := (hb.cell (p := ⟨b, _, none⟩) hbb).trans ((hcell k (by simpa [flc] using hlt)).trans (flc_at bs k hlt))
      have HE := hd (levErr_at bs k hlt)
      clear hcell
      generalize bs.getD k 0 = x at hx HE
      by_cases h0 : chkLev x = 0
      · have H0 := hd h0
        clear h0
        go_wp2_with (go_at_call 71; refine (gLev_any _ _).mono ?_; rintro e w' ⟨rfl, hb2⟩; rw [H0.out])
        go_roundw
        case rel => exact ⟨k + 1, by omega, by go_num, hb.trans (hb2.mono hb.size), hd (fun j hj => if e : j = k then by rw [e, HE.out, H0.out] else HZ.out j (by omega))⟩
        case measure => simp [intOf]; omega
      · have H1 : (chkLev x != 0) = true := by simpa using h0
        have H0 := hd h0
        clear h0
        go_wp2_with (go_at_call 71; refine (gLev_any _ _).mono ?_; rintro e w' ⟨rfl, hb2⟩)
        go_ret
        exact ⟨by rw [fst0_at (levErr bs) k (by simpa [levErr] using hlt) HZ.out (by rw [HE.out]; exact H0.out), HE.out]; rfl, hb.trans (hb2.mono hb.size)⟩
    · go_wp2
      go_ret
      have hke : k = bs.length := by omega
      exact ⟨by rw [fst0_none (levErr bs) (fun j hj => HZ.out j (by simp [levErr] at hj; omega))]; rfl, hb⟩

/-- Whether a span lies in the ticks below n, as checkEnds asks it. -/
def endAt (n f t : Int) : Int := if max f 0 = f ∧ min t n = t then 0 else 14
def endErr (n : Int) (l : List (Int × Int)) : List Int := l.map fun s => endAt n s.1 s.2
theorem endErr_at (n : Int) (l : List (Int × Int)) (k : Nat) (hk : k < l.length) : (endErr n l).getD k 0 = endAt n (l.getD k (0, 0)).1 (l.getD k (0, 0)).2 := by simp [endErr, hk]

set_option maxRecDepth 100000 in
set_option maxHeartbeats 1000000 in
/-- The closure of checkEnds: 'whole', (0, n), lies in block B. -/
theorem endsClo_any (f t n : Int) (B : Nat) (w : World) (h0 : w.cell? ⟨B, 0, none⟩ = some (.int .i64 0)) (h1 : w.cell? ⟨B, 1, none⟩ = some (.int .i64 n)) :
    Calls Tryz.prog 102 #[.agg #[.int .i64 f, .int .i64 t], .pointer (some ⟨B, 0, none⟩)] w fun e w' => e = .returned (.int .i64 (endAt n f t)) ∧ Below w.heap.size w w' := by
  have hBlt : B < w.heap.size := World.block_lt_of_cell? _ _ h0
  obtain ⟨F, hF⟩ : ∃ F, F = max f 0 := ⟨_, rfl⟩
  obtain ⟨T, hT⟩ : ∃ T, T = min t n := ⟨_, rfl⟩
  have CM := hd (fun w => show Calls Tryz.prog 103 #[.agg #[.int .i64 f, .int .i64 t], .agg #[.int .i64 0, .int .i64 n]] w fun e w' => e = .returned (.agg #[.int .i64 F, .int .i64 T]) ∧ Below w.heap.size w w' from by rw [hF, hT]; exact common_any f t 0 n w)
  have HE := hd (show endAt n f t = unl (decide (F = f) && decide (T = t)) 14 from by
    unfold endAt unl
    rw [hF, hT]
    by_cases h1 : max f 0 = f <;> by_cases h2 : min t n = t <;> simp [h1, h2])
  obtain ⟨p, hp⟩ : ∃ p, (F == f) = p := ⟨_, rfl⟩
  obtain ⟨q, hq⟩ : ∃ q, (T == t) = q := ⟨_, rfl⟩
  have HP := hd (show decide (F = f) = p from by rw [← hp]; rfl)
  have HQ := hd (show decide (T = t) = q from by rw [← hq]; rfl)
  clear hF hT
  cases p <;> cases q
  all_goals
    go_enter Tryz.func102, Tryz.ntmps102
    go_wp2
    have c0 := World.cell?_alloc_new w #[Value.int .i64 f, Value.int .i64 t] 50 0
    have c1 := World.cell?_alloc_new w #[Value.int .i64 f, Value.int .i64 t] 50 1
    have hsz : w.heap.size < (w.alloc (Obj.cells #[Value.int .i64 f, Value.int .i64 t] 50)).heap.size := by simp
    have hb1 : Below w.heap.size w (w.alloc (Obj.cells #[Value.int .i64 f, Value.int .i64 t] 50)) := (Below.refl _ w).alloc (Nat.le_refl _) _
    have g0 := cell_alloc_old (o := Obj.cells #[Value.int .i64 f, Value.int .i64 t] 50) h0
    have g1 := cell_alloc_old (o := Obj.cells #[Value.int .i64 f, Value.int .i64 t] 50) h1
    generalize (w.alloc (Obj.cells #[Value.int .i64 f, Value.int .i64 t] 50)) = W1 at c0 c1 hsz hb1 g0 g1 ⊢
    have F0 : ∀ p : Bw W1, p.out.cell? ⟨w.heap.size, 0, none⟩ = some (.int .i64 f) := fun p => p.cell hsz (by simpa using c0)
    have F1 : ∀ p : Bw W1, p.out.cell? ⟨w.heap.size, 1, none⟩ = some (.int .i64 t) := fun p => p.cell hsz (by simpa using c1)
    have G0 : ∀ p : Bw W1, p.out.cell? ⟨B, 0, none⟩ = some (.int .i64 0) := fun p => p.cell (by omega) g0
    have G1 : ∀ p : Bw W1, p.out.cell? ⟨B, 1, none⟩ = some (.int .i64 n) := fun p => p.cell (by omega) g1
    refine wp_region_bw (by kernel_rfl) (by kernel_rfl) ?_
    repeat (first | go_big_quiet_step (first | (go_at_call 103; exact Bw.call _ (CM.out _)) | (go_at_call 40; exact Bw.pure _ (unl_any _ _ _))))
    refine wpQuiet_nil ?_
    rintro ⟨W2, hB2⟩
    go_wp2
    go_ret
    exact ⟨by rw [HE.out, HP.out, HQ.out]; rfl, hb1.trans (hB2.mono hb1.size)⟩

set_option maxRecDepth 100000 in
set_option maxHeartbeats 1000000 in
theorem eachEnds_any (sl : Value) (l : List (Int × Int)) (n : Int) (B : Nat) (w : World) (h : Rd w w.heap.size sl l.length (spc l)) (h0 : w.cell? ⟨B, 0, none⟩ = some (.int .i64 0)) (h1 : w.cell? ⟨B, 1, none⟩ = some (.int .i64 n)) :
    Calls Tryz.prog 101 #[sl, .func (.func 102) #[] #[.pointer (some ⟨B, 0, none⟩)]] w fun e w' => e = .returned (.int .i64 (fst0 (endErr n l))) ∧ Below w.heap.size w w' := by
  obtain ⟨A, c, rfl, hc1, hc2, hc⟩ := h
  have hBlt : B < w.heap.size := World.block_lt_of_cell? _ _ h0
  unfold maxLen at hc2
  have HC := hd hc
  clear hc
  go_enter Tryz.func101, Tryz.ntmps101
  go_wp2
  go_loopw [4, 10] (fun _ i wr => ∃ k : Nat, k ≤ l.length ∧ i = .int .i64 k ∧ Below w.heap.size w wr ∧ Hid (∀ j, j < k → (endErr n l).getD j 0 = 0)) (fun _ i _ => l.length - (intOf i).toNat)
  case atStart => exact ⟨0, Nat.zero_le _, rfl, Below.refl _ _, hd (fun j hj => absurd hj (by omega))⟩
  case round =>
    obtain ⟨k, hk, rfl, hb, HZ⟩ := hrel
    by_cases hlt : k < l.length
    · obtain ⟨b, off, rfl, hbb, hcell⟩ := HC.out (by omega)
      obtain ⟨q1, q2⟩ := spc_getD l k hlt
      have hs0 : wr.cell? ⟨b, off + k * 2, none⟩ = some (.int .i64 (l.getD k (0, 0)).1) := (hb.cell (p := ⟨b, _, none⟩) hbb).trans ((hcell (k * 2) (by rw [spc_len]; omega)).trans q1)
      have hs1 : wr.cell? ⟨b, off + k * 2 + 1, none⟩ = some (.int .i64 (l.getD k (0, 0)).2) := (hb.cell (p := ⟨b, _, none⟩) hbb).trans ((hcell (k * 2 + 1) (by rw [spc_len]; omega)).trans q2)
      have HE := hd (endErr_at n l k hlt)
      have K0 := hd (fun o => cell_alloc_old (o := o) ((hb.cell (p := ⟨B, 0, none⟩) hBlt).trans h0))
      have K1 := hd (fun o => cell_alloc_old (o := o) ((hb.cell (p := ⟨B, 1, none⟩) hBlt).trans h1))
      clear hcell q1 q2 h0 h1
      generalize (l.getD k (0, 0)).1 = f at *
      generalize (l.getD k (0, 0)).2 = t at *
      by_cases h0 : endAt n f t = 0
      · have H0 := hd h0
        clear h0
        go_wp2_with (go_at_call 102; refine (endsClo_any _ _ n _ _ (K0.out _) (K1.out _)).mono ?_; rintro e w' ⟨rfl, hb2⟩; rw [H0.out])
        go_roundw
        case rel => exact ⟨k + 1, by omega, by go_num, (hb.alloc hb.size _).trans (hb2.mono (by have := hb.size; simp; omega)), hd (fun j hj => if e : j = k then by rw [e, HE.out, H0.out] else HZ.out j (by omega))⟩
        case measure => simp [intOf]; omega
      · have H1 : (endAt n f t != 0) = true := by simpa using h0
        have H0 := hd h0
        clear h0
        go_wp2_with (go_at_call 102; refine (endsClo_any _ _ n _ _ (K0.out _) (K1.out _)).mono ?_; rintro e w' ⟨rfl, hb2⟩)
        go_ret
        exact ⟨by rw [fst0_at (endErr n l) k (by simpa [endErr] using hlt) HZ.out (by rw [HE.out]; exact H0.out), HE.out]; rfl, (hb.alloc hb.size _).trans (hb2.mono (by have := hb.size; simp; omega))⟩
    · go_wp2
      go_ret
      have hke : k = l.length := by omega
      exact ⟨by rw [fst0_none (endErr n l) (fun j hj => HZ.out j (by simp [endErr] at hj; omega))]; rfl, hb⟩

set_option maxRecDepth 100000 in
theorem checkEnds_any (nm : ByteArray) (st : Int) (lv gv : Value) (xs : List Value) (n : Nat) (l : List (Int × Int)) (w : World) (hl : Rd w w.heap.size lv n xs) (hg : Rd w w.heap.size gv l.length (spc l)) :
    Calls Tryz.prog 73 #[.agg #[.string nm, .int .i64 st, lv, gv]] w fun e w' => e = .returned (.int .i64 (fst0 (endErr n l))) ∧ Below w.heap.size w w' := by
  obtain ⟨A, c, rfl, hc1, hc2, -⟩ := hl
  have hg2 := hg
  obtain ⟨A2, c2, rfl, -, -, -⟩ := hg2
  have HG := hd hg
  clear hg
  unfold maxLen at hc2
  go_enter Tryz.func73, Tryz.ntmps73
  go_wp2_with fail
  have hb1 : ∀ o o', Below w.heap.size w ((w.alloc o).alloc o') := fun o o' => ((Below.refl _ w).alloc (Nat.le_refl _) _).alloc (by simp) _
  refine (eachEnds_any _ l n (w.heap.size + 1) _ ((HG.out.below (hb1 _ _) (Nat.le_refl _)).mono (by simp; omega)) ?_ ?_).mono ?_
  · have := World.cell?_alloc_new (w.alloc (.cells #[.string nm, .int .i64 st, .slice A n c, .slice A2 l.length c2] 35)) #[.int .i64 0, .int .i64 n] 50 0
    rw [World.size_alloc] at this; exact this
  · have := World.cell?_alloc_new (w.alloc (.cells #[.string nm, .int .i64 st, .slice A n c, .slice A2 l.length c2] 35)) #[.int .i64 0, .int .i64 n] 50 1
    rw [World.size_alloc] at this; exact this
  · rintro e w' ⟨rfl, hb2⟩
    go_wp2
    go_ret
    exact ⟨rfl, (hb1 _ _).trans (hb2.mono (by simp; omega))⟩
end Go.Proofs.YtkgkpcmokmhakaaGreatDoor

namespace Go.Proofs.YtkgkpcmokmhakaaGreatDoor
open Go.RowKit

/-- A level that is 0, as Go compares it. -/
def zeroF (b : Nat) : Bool := !(FloatKind.f32.format.order b 0 != some .eq)
theorem zeroF_true {b : Nat} : zeroF b = true ↔ (FloatKind.f32.format.order b 0 != some .eq) = false := by unfold zeroF; cases (FloatKind.f32.format.order b 0 != some .eq) <;> simp
/-- All levels in gaps are 0. -/
def silB (bs : List Nat) (gs : List (Int × Int)) : Bool := gs.all fun s => (List.range bs.length).all fun i => !(decide (s.1 ≤ (i : Int)) && decide ((i : Int) < s.2)) || zeroF (bs.getD i 0)
theorem silB_true (bs : List Nat) (gs : List (Int × Int)) (he : ∀ s ∈ gs, s.2 ≤ (bs.length : Int)) : silB bs gs = true ↔ ∀ j, j < gs.length → ∀ i : Nat, (gs.getD j (0, 0)).1 ≤ i → (i : Int) < (gs.getD j (0, 0)).2 → (FloatKind.f32.format.order (bs.getD i 0) 0 != some .eq) = false := by
  unfold silB
  rw [List.all_eq_true]
  constructor
  · intro h j hj i h1 h2
    have hm := getD_mem gs j hj
    have h3 := h _ hm
    rw [List.all_eq_true] at h3
    have h4 := h3 i (List.mem_range.2 (by have := he _ hm; omega))
    rw [decide_eq_true h1, decide_eq_true h2] at h4
    exact zeroF_true.1 (by simpa using h4)
  · intro h s hs
    rw [List.all_eq_true]
    intro i hi
    obtain ⟨j, hj, rfl⟩ := List.mem_iff_getElem.1 hs
    by_cases h1 : (gs[j]).1 ≤ (i : Int) ∧ (i : Int) < (gs[j]).2
    · have e : gs.getD j (0, 0) = gs[j] := by simp [hj]
      have := h j hj i (by rw [e]; exact h1.1) (by rw [e]; exact h1.2)
      rw [zeroF_true.2 this, Bool.or_true]
    · have : (decide ((gs[j]).1 ≤ (i : Int)) && decide ((i : Int) < (gs[j]).2)) = false := by
        rw [Bool.and_eq_false_iff, decide_eq_false_iff_not, decide_eq_false_iff_not]; omega
      rw [this]; rfl

set_option maxRecDepth 100000 in
set_option maxHeartbeats 1000000 in
theorem isSilent_no (nm : ByteArray) (st : Int) (lv gv : Value) (bs : List Nat) (l : List (Int × Int)) (w : World) (hl : Rd w w.heap.size lv bs.length (flc bs)) (hg : Rd w w.heap.size gv l.length (spc l))
    (hok : ∀ j, j < l.length → 0 ≤ (l.getD j (0, 0)).1 ∧ (l.getD j (0, 0)).1 < (l.getD j (0, 0)).2 ∧ (l.getD j (0, 0)).2 ≤ (bs.length : Int))
    (hs : ¬ ∀ j, j < l.length → ∀ i : Nat, (l.getD j (0, 0)).1 ≤ i → (i : Int) < (l.getD j (0, 0)).2 → (FloatKind.f32.format.order (bs.getD i 0) 0 != some .eq) = false) :
    Calls Tryz.prog 74 #[.agg #[.string nm, .int .i64 st, lv, gv]] w fun e w' => e = .returned (.bool false) ∧ Below w.heap.size w w' := by
  obtain ⟨A, c, rfl, hc1, hc2, hcl⟩ := hl
  obtain ⟨A2, c2, rfl, hc3, hc4, hcg⟩ := hg
  have HL := hd hcl
  have HG := hd hcg
  have HOK := hd hok
  have HS := hd hs
  clear hcl hcg hok hs
  unfold maxLen at hc2 hc4
  go_enter Tryz.func74, Tryz.ntmps74
  go_wp2
  have c2' := World.cell?_alloc_new w #[.string nm, .int .i64 st, .slice A bs.length c, .slice A2 l.length c2] 35 2
  have c3' := World.cell?_alloc_new w #[.string nm, .int .i64 st, .slice A bs.length c, .slice A2 l.length c2] 35 3
  have hsz : w.heap.size < (w.alloc (Obj.cells #[.string nm, .int .i64 st, .slice A bs.length c, .slice A2 l.length c2] 35)).heap.size := by simp
  have hb1 : Below w.heap.size w (w.alloc (Obj.cells #[.string nm, .int .i64 st, .slice A bs.length c, .slice A2 l.length c2] 35)) := (Below.refl _ w).alloc (Nat.le_refl _) _
  generalize (w.alloc (Obj.cells #[.string nm, .int .i64 st, .slice A bs.length c, .slice A2 l.length c2] 35)) = W1 at c2' c3' hsz hb1 ⊢
  have k2 : W1.cell? ⟨w.heap.size, 2, none⟩ = some (.slice A bs.length c) := by simpa using c2'
  have k3 : W1.cell? ⟨w.heap.size, 3, none⟩ = some (.slice A2 l.length c2) := by simpa using c3'
  clear c2' c3'
  go_step3
  go_wp2
  go_step3
  go_wp2
  go_loopw [3, 11] (fun s i wr => ∃ k : Nat, k ≤ l.length ∧ i = .int .i64 k ∧ s = .bool true ∧ Below W1.heap.size W1 wr ∧ Hid (∀ j, j < k → ∀ i : Nat, (l.getD j (0, 0)).1 ≤ i → (i : Int) < (l.getD j (0, 0)).2 → (FloatKind.f32.format.order (bs.getD i 0) 0 != some .eq) = false)) (fun _ i _ => l.length - (intOf i).toNat)
  case atStart => exact ⟨0, Nat.zero_le _, rfl, rfl, Below.refl _ _, hd (fun j hj => absurd hj (by omega))⟩
  case round =>
    obtain ⟨k, hk, rfl, rfl, hb, HZ0⟩ := hrel
    by_cases hlt : k < l.length
    · obtain ⟨b2, off2, rfl, hbb2, hcell2⟩ := HG.out (by omega)
      obtain ⟨q1, q2⟩ := spc_getD l k hlt
      obtain ⟨o1, o2, o3⟩ := HOK.out k hlt
      have bw : ∀ b o, b < w.heap.size → wr.cell? ⟨b, o, none⟩ = w.cell? ⟨b, o, none⟩ := fun b o hlt => (hb.cell (p := ⟨b, o, none⟩) (Nat.lt_trans hlt hsz)).trans (hb1.cell (p := ⟨b, o, none⟩) hlt)
      have hs0 := (bw b2 _ hbb2).trans ((hcell2 (k * 2) (by rw [spc_len]; omega)).trans q1)
      have hs1 := (bw b2 _ hbb2).trans ((hcell2 (k * 2 + 1) (by rw [spc_len]; omega)).trans q2)
      rw [← Nat.add_assoc] at hs1
      clear hcell2 q1 q2
      have HF := hd (show ∀ f t, (l.getD k (0, 0)).1 = f → (l.getD k (0, 0)).2 = t → (∀ i : Nat, f ≤ (i : Int) → (i : Int) < t → (FloatKind.f32.format.order (bs.getD i 0) 0 != some .eq) = false) → ∀ j, j < k + 1 → ∀ i : Nat, (l.getD j (0, 0)).1 ≤ i → (i : Int) < (l.getD j (0, 0)).2 → (FloatKind.f32.format.order (bs.getD i 0) 0 != some .eq) = false from fun f t e1 e2 h j hj i h1 h2 => by
        by_cases e : j = k
        · subst e; exact h i (by rw [← e1]; exact h1) (by rw [← e2]; exact h2)
        · exact HZ0.out j (by omega) i h1 h2)
      replace HF := hd (HF.out _ _ rfl rfl)
      generalize (l.getD k (0, 0)).1 = f at *
      generalize (l.getD k (0, 0)).2 = t at *
      obtain ⟨f, rfl⟩ := Int.eq_ofNat_of_zero_le o1
      obtain ⟨t, rfl⟩ := Int.eq_ofNat_of_zero_le (show 0 ≤ t by omega)
      have o2' : f < t := by omega
      have o3' : t ≤ bs.length := by omega
      obtain ⟨b, off, rfl, hbb, hcell⟩ := HL.out (by omega)
      have hcl : ∀ o j, j < t - f → (wr.alloc o).cell? ⟨b, off + f + j, none⟩ = some (.float .f32 (bs.getD (f + j) 0)) := fun o j hj => by
        refine cell_alloc_old ((bw b _ hbb).trans ?_)
        rw [show off + f + j = off + (f + j) by omega, hcell (f + j) (by simp [flc]; omega)]
        simp [flc, show f + j < bs.length by omega]
      have HCL := hd hcl
      have HBW := hd bw
      have K2 := fun o => cell_alloc_old (o := o) ((hb.cell (p := ⟨w.heap.size, 2, none⟩) hsz).trans k2)
      have KSZ := hb.size
      clear hcl bw hcell k2 o1
      go_wp2
      have H0 := HCL.out (Obj.cells #[Value.int .i64 f, Value.int .i64 t] 50)
      have hb' : Below W1.heap.size W1 (wr.alloc (Obj.cells #[Value.int .i64 f, Value.int .i64 t] 50)) := hb.alloc hb.size _
      generalize (wr.alloc (Obj.cells #[Value.int .i64 f, Value.int .i64 t] 50)) = W3 at *
      have HZ := hd H0
      clear H0 K2 KSZ hs0 hs1
      go_loop [3, 23] (fun s i => ∃ j : Nat, j ≤ t - f ∧ i = .int .i64 j ∧ s = .bool true ∧ Hid (∀ i : Nat, i < j → (FloatKind.f32.format.order (bs.getD (f + i) 0) 0 != some .eq) = false)) (fun _ i => (t - f) - (intOf i).toNat)
      case atStart => exact ⟨0, Nat.zero_le _, rfl, rfl, hd (fun i hi => absurd hi (by omega))⟩
      case round =>
        obtain ⟨j, hj, rfl, rfl, HJ⟩ := hrel
        by_cases hjt : j < t - f
        · have hx := HZ.out j hjt
          have HX := hd (show ∀ x, bs.getD (f + j) 0 = x → (FloatKind.f32.format.order x 0 != some .eq) = false → ∀ i : Nat, i < j + 1 → (FloatKind.f32.format.order (bs.getD (f + i) 0) 0 != some .eq) = false from fun x e h i hi => by
            by_cases e2 : i = j
            · subst e2; rw [e]; exact h
            · exact HJ.out i (by omega))
          replace HX := hd (HX.out _ rfl)
          generalize bs.getD (f + j) 0 = x at hx HX
          cases hz : (FloatKind.f32.format.order x 0 != some .eq)
          · have HX2 := hd (HX.out hz)
            clear HX
            go_wp2
            go_round
            case rel => exact ⟨j + 1, by omega, by go_num, rfl, HX2⟩
            case measure => simp [intOf]; omega
          · clear HX
            go_wp2
            go_ret
            exact ⟨rfl, hb1.trans (hb'.mono hb1.size)⟩
        · have HN := hd (HF.out fun i h1 h2 => by
            have := HJ.out (i - f) (by omega)
            rwa [show f + (i - f) = i by omega] at this)
          clear HF
          go_wp2
          go_roundw
          case rel => exact ⟨k + 1, by omega, by go_num, rfl, hb', HN⟩
          case measure => simp [intOf]; omega
    · exact absurd (fun j hj => HZ0.out j (by omega)) HS.out

/-- The first errors of a record, as the project asks for them. -/
def rec1 (nm : ByteArray) (st : Int) (n : Nat) : Int := fst0 [unl (nameB nm) 8, rng st 0 100000, Go.Proofs.YtkgkpcmokmhakaaGreatDoor.most (n : Int) 4096]
def rec2 (bs : List Nat) (gs : List (Int × Int)) : Int := fst0 [fst0 (levErr bs), chkSpans gs, fst0 (endErr (bs.length : Int) gs)]
/-- What CheckRecord says. -/
def chkRec (nm : ByteArray) (st : Int) (bs : List Nat) (gs : List (Int × Int)) : Int :=
  if rec1 nm st bs.length = 0 then (if rec2 bs gs = 0 then unl (silB bs gs) 1 else rec2 bs gs) else rec1 nm st bs.length

theorem fst0_each {l : List Int} (h : fst0 l = 0) (j : Nat) (hj : j < l.length) : l.getD j 0 = 0 := by
  induction l generalizing j with
  | nil => simp at hj
  | cons x l ih =>
    unfold fst0 at h
    split at h
    · rename_i hx
      match j with
      | 0 => simpa using hx
      | j + 1 => simpa using ih h j (by simpa using hj)
    · rename_i hx
      exact absurd h hx
theorem rec2_zero {bs : List Nat} {gs : List (Int × Int)} (h : rec2 bs gs = 0) : fst0 (levErr bs) = 0 ∧ chkSpans gs = 0 ∧ fst0 (endErr (bs.length : Int) gs) = 0 :=
  ⟨fst0_each h 0 (by simp), fst0_each h 1 (by simp), fst0_each h 2 (by simp)⟩
theorem ends_zero {n : Int} {gs : List (Int × Int)} (h : fst0 (endErr n gs) = 0) (j : Nat) (hj : j < gs.length) : (gs.getD j (0, 0)).2 ≤ n := by
  have h1 := fst0_each h j (by simpa [endErr] using hj)
  rw [endErr_at n gs j hj] at h1
  unfold endAt at h1
  split at h1
  · rename_i h2; omega
  · cases h1
end Go.Proofs.YtkgkpcmokmhakaaGreatDoor
