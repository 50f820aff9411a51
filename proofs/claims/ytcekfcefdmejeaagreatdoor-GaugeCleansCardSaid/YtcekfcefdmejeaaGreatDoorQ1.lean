/-
  The project's checks of levels and of the ends of gaps, whatever they are; and of silent gaps, of gaps that lie in the record.
-/
import Derived.Test.YtcekfcefdmejeaaGreatDoorProg
import Derived.Test.YtcekfcefdmejeaaGreatDoorFB
import Derived.Test.YtcekfcefdmejeaaGreatDoorMC
namespace Go.Proofs.YtcekfcefdmejeaaGreatDoor
open Go.RowKit

def levErr (bs : List Nat) : List Int := bs.map chkLev
theorem levErr_at (bs : List Nat) (k : Nat) (hk : k < bs.length) : (levErr bs).getD k 0 = chkLev (bs.getD k 0) := by simp [levErr, hk]
theorem flc_at (bs : List Nat) (k : Nat) (hk : k < bs.length) : (flc bs)[k]? = some (.float .f32 (bs.getD k 0)) := by simp [flc, hk]

set_option maxRecDepth 100000 in
set_option maxHeartbeats 1000000 in
theorem eachLev_any (sl : Value) (bs : List Nat) (w : World) (h : Rd w w.heap.size sl bs.length (flc bs)) :
    Calls Tryz.prog 103 #[sl, .func (.func 74) #[] #[]] w fun e w' => e = .returned (.int .i64 (fst0 (levErr bs))) ∧ Below w.heap.size w w' := by
  obtain ⟨A, c, rfl, hc1, hc2, hc⟩ := h
  unfold maxLen at hc2
  have HC := hd hc
  clear hc
  go_enter Tryz.func103, Tryz.ntmps103
  go_wp2
  go_loopw [4, 10] (fun _ i wr => ∃ k : Nat, k ≤ bs.length ∧ i = .int .i64 k ∧ Below w.heap.size w wr ∧ Hid (∀ j, j < k → (levErr bs).getD j 0 = 0)) (fun _ i _ => bs.length - (intOf i).toNat)
  case atStart => exact ⟨0, Nat.zero_le _, rfl, Below.refl _ _, hd (fun j hj => absurd hj (by omega))⟩
  case round =>
    obtain ⟨k, hk, rfl, hb, HZ⟩ := hrel
    by_cases hlt : k < bs.length
    · obtain ⟨b, off, rfl, hbb, hcell⟩ := HC.out (by omega)
      have hx : wr.cell? ⟨b, off + k, none⟩ = some (.float .f32 (bs.getD k 0)) := (hb.cell (p := ⟨b, _, none⟩) hbb).trans ((hcell k (by simpa [flc] using hlt)).trans (flc_at bs k hlt))
      have HE := hd (levErr_at bs k hlt)
      clear hcell
      generalize bs.getD k 0 = x at hx HE
      by_cases h0 : chkLev x = 0
      · have H0 := hd h0
        clear h0
        go_wp2_with (go_at_call 74; refine (gLev_any _ _).mono ?_; rintro e w' ⟨rfl, hb2⟩; rw [H0.out])
        go_roundw
        case rel => exact ⟨k + 1, by omega, by go_num, hb.trans (hb2.mono hb.size), hd (fun j hj => if e : j = k then by rw [e, HE.out, H0.out] else HZ.out j (by omega))⟩
        case measure => simp [intOf]; omega
      · have H1 : (chkLev x != 0) = true := by simpa using h0
        have H0 := hd h0
        clear h0
        go_wp2_with (go_at_call 74; refine (gLev_any _ _).mono ?_; rintro e w' ⟨rfl, hb2⟩)
        go_ret
        exact ⟨by rw [fst0_at (levErr bs) k (by simpa [levErr] using hlt) HZ.out (by rw [HE.out]; exact H0.out), HE.out]; rfl, hb.trans (hb2.mono hb.size)⟩
    · go_wp2
      go_ret
      have hke : k = bs.length := by omega
      exact ⟨by rw [fst0_none (levErr bs) (fun j hj => HZ.out j (by simp [levErr] at hj; omega))]; rfl, hb⟩

/-- Whether a span lies in the ticks below n, as checkEnds asks it. -/
def endAt (n f t : Int) : Int := if max f 0 = f ∧ min t n = t then 0 else 14
def endErr (n : Int) (l : List (Int × Int)) : List Int := l.map fun s => endAt n s.1 s.2
theorem endErr_at (n : Int) (l : List (Int × Int)) (k : Nat) (hk : k < l.length) : (endErr n l).getD k 0 = endAt n (l.getD k (0, 0)).1 (l.getD k (0, 0)).2 := by simp [endErr, hk]

set_option maxRecDepth 100000 in
set_option maxHeartbeats 1000000 in
/-- The closure of checkEnds: 'whole', (0, n), lies in block B. -/
theorem endsClo_any (f t n : Int) (B : Nat) (w : World) (h0 : w.cell? ⟨B, 0, none⟩ = some (.int .i64 0)) (h1 : w.cell? ⟨B, 1, none⟩ = some (.int .i64 n)) :
    Calls Tryz.prog 136 #[.agg #[.int .i64 f, .int .i64 t], .pointer (some ⟨B, 0, none⟩)] w fun e w' => e = .returned (.int .i64 (endAt n f t)) ∧ Below w.heap.size w w' := by
  have hBlt : B < w.heap.size := World.block_lt_of_cell? _ _ h0
  obtain ⟨F, hF⟩ : ∃ F, F = max f 0 := ⟨_, rfl⟩
  obtain ⟨T, hT⟩ : ∃ T, T = min t n := ⟨_, rfl⟩
  have CM := hd (fun w => show Calls Tryz.prog 137 #[.agg #[.int .i64 f, .int .i64 t], .agg #[.int .i64 0, .int .i64 n]] w fun e w' => e = .returned (.agg #[.int .i64 F, .int .i64 T]) ∧ Below w.heap.size w w' from by rw [hF, hT]; exact common_any f t 0 n w)
  have HE := hd (show endAt n f t = unl (decide (F = f) && decide (T = t)) 14 from by
    unfold endAt unl
    rw [hF, hT]
    by_cases h1 : max f 0 = f <;> by_cases h2 : min t n = t <;> simp [h1, h2])
  obtain ⟨p, hp⟩ : ∃ p, (F == f) = p := ⟨_, rfl⟩
  obtain ⟨q, hq⟩ : ∃ q, (T == t) = q := ⟨_, rfl⟩
  have HP := hd (show decide (F = f) = p from by rw [← hp]; rfl)
  have HQ := hd (show decide (T = t) = q from by rw [← hq]; rfl)
  clear hF hT
  cases p <;> cases q
  all_goals
    go_enter Tryz.func136, Tryz.ntmps136
    go_wp2
    have c0 := World.cell?_alloc_new w #[Value.int .i64 f, Value.int .i64 t] 82 0
    have c1 := World.cell?_alloc_new w #[Value.int .i64 f, Value.int .i64 t] 82 1
    have hsz : w.heap.size < (w.alloc (Obj.cells #[Value.int .i64 f, Value.int .i64 t] 82)).heap.size := by simp
    have hb1 : Below w.heap.size w (w.alloc (Obj.cells #[Value.int .i64 f, Value.int .i64 t] 82)) := (Below.refl _ w).alloc (Nat.le_refl _) _
    have g0 := cell_alloc_old (o := Obj.cells #[Value.int .i64 f, Value.int .i64 t] 82) h0
    have g1 := cell_alloc_old (o := Obj.cells #[Value.int .i64 f, Value.int .i64 t] 82) h1
    generalize (w.alloc (Obj.cells #[Value.int .i64 f, Value.int .i64 t] 82)) = W1 at c0 c1 hsz hb1 g0 g1 ⊢
    have F0 : ∀ p : Bw W1, p.out.cell? ⟨w.heap.size, 0, none⟩ = some (.int .i64 f) := fun p => p.cell hsz (by simpa using c0)
    have F1 : ∀ p : Bw W1, p.out.cell? ⟨w.heap.size, 1, none⟩ = some (.int .i64 t) := fun p => p.cell hsz (by simpa using c1)
    have G0 : ∀ p : Bw W1, p.out.cell? ⟨B, 0, none⟩ = some (.int .i64 0) := fun p => p.cell (by omega) g0
    have G1 : ∀ p : Bw W1, p.out.cell? ⟨B, 1, none⟩ = some (.int .i64 n) := fun p => p.cell (by omega) g1
    refine wp_region_bw (by kernel_rfl) (by kernel_rfl) ?_
    repeat (first | go_big_quiet_step (first | (go_at_call 137; exact Bw.call _ (CM.out _)) | (go_at_call 63; exact Bw.pure _ (unl_any _ _ _))))
    refine wpQuiet_nil ?_
    rintro ⟨W2, hB2⟩
    go_wp2
    go_ret
    exact ⟨by rw [HE.out, HP.out, HQ.out]; rfl, hb1.trans (hB2.mono hb1.size)⟩

set_option maxRecDepth 100000 in
set_option maxHeartbeats 1000000 in
theorem eachEnds_any (sl : Value) (l : List (Int × Int)) (n : Int) (B : Nat) (w : World) (h : Rd w w.heap.size sl l.length (spc l)) (h0 : w.cell? ⟨B, 0, none⟩ = some (.int .i64 0)) (h1 : w.cell? ⟨B, 1, none⟩ = some (.int .i64 n)) :
    Calls Tryz.prog 135 #[sl, .func (.func 136) #[] #[.pointer (some ⟨B, 0, none⟩)]] w fun e w' => e = .returned (.int .i64 (fst0 (endErr n l))) ∧ Below w.heap.size w w' := by
  obtain ⟨A, c, rfl, hc1, hc2, hc⟩ := h
  have hBlt : B < w.heap.size := World.block_lt_of_cell? _ _ h0
  unfold maxLen at hc2
  have HC := hd hc
  clear hc
  go_enter Tryz.func135, Tryz.ntmps135
  go_wp2
  go_loopw [4, 10] (fun _ i wr => ∃ k : Nat, k ≤ l.length ∧ i = .int .i64 k ∧ Below w.heap.size w wr ∧ Hid (∀ j, j < k → (endErr n l).getD j 0 = 0)) (fun _ i _ => l.length - (intOf i).toNat)
  case atStart => exact ⟨0, Nat.zero_le _, rfl, Below.refl _ _, hd (fun j hj => absurd hj (by omega))⟩
  case round =>
    obtain ⟨k, hk, rfl, hb, HZ⟩ := hrel
    by_cases hlt : k < l.length
    · obtain ⟨b, off, rfl, hbb, hcell⟩ := HC.out (by omega)
      obtain ⟨q1, q2⟩ := spc_getD l k hlt
      have hs0 : wr.cell? ⟨b, off + k * 2, none⟩ = some (.int .i64 (l.getD k (0, 0)).1) := (hb.cell (p := ⟨b, _, none⟩) hbb).trans ((hcell (k * 2) (by rw [spc_len]; omega)).trans q1)
      have hs1 : wr.cell? ⟨b, off + k * 2 + 1, none⟩ = some (.int .i64 (l.getD k (0, 0)).2) := (hb.cell (p := ⟨b, _, none⟩) hbb).trans ((hcell (k * 2 + 1) (by rw [spc_len]; omega)).trans q2)
      have HE := hd (endErr_at n l k hlt)
      have K0 := hd (fun o => cell_alloc_old (o := o) ((hb.cell (p := ⟨B, 0, none⟩) hBlt).trans h0))
      have K1 := hd (fun o => cell_alloc_old (o := o) ((hb.cell (p := ⟨B, 1, none⟩) hBlt).trans h1))
      clear hcell q1 q2 h0 h1
      generalize (l.getD k (0, 0)).1 = f at *
      generalize (l.getD k (0, 0)).2 = t at *
      by_cases h0 : endAt n f t = 0
      · have H0 := hd h0
        clear h0
        go_wp2_with (go_at_call 136; refine (endsClo_any _ _ n _ _ (K0.out _) (K1.out _)).mono ?_; rintro e w' ⟨rfl, hb2⟩; rw [H0.out])
        go_roundw
        case rel => exact ⟨k + 1, by omega, by go_num, (hb.alloc hb.size _).trans (hb2.mono (by have := hb.size; simp; omega)), hd (fun j hj => if e : j = k then by rw [e, HE.out, H0.out] else HZ.out j (by omega))⟩
        case measure => simp [intOf]; omega
      · have H1 : (endAt n f t != 0) = true := by simpa using h0
        have H0 := hd h0
        clear h0
        go_wp2_with (go_at_call 136; refine (endsClo_any _ _ n _ _ (K0.out _) (K1.out _)).mono ?_; rintro e w' ⟨rfl, hb2⟩)
        go_ret
        exact ⟨by rw [fst0_at (endErr n l) k (by simpa [endErr] using hlt) HZ.out (by rw [HE.out]; exact H0.out), HE.out]; rfl, (hb.alloc hb.size _).trans (hb2.mono (by have := hb.size; simp; omega))⟩
    · go_wp2
      go_ret
      have hke : k = l.length := by omega
      exact ⟨by rw [fst0_none (endErr n l) (fun j hj => HZ.out j (by simp [endErr] at hj; omega))]; rfl, hb⟩

set_option maxRecDepth 100000 in
theorem checkEnds_any (nm : ByteArray) (st : Int) (lv gv : Value) (xs : List Value) (n : Nat) (l : List (Int × Int)) (w : World) (hl : Rd w w.heap.size lv n xs) (hg : Rd w w.heap.size gv l.length (spc l)) :
    Calls Tryz.prog 105 #[.agg #[.string nm, .int .i64 st, lv, gv]] w fun e w' => e = .returned (.int .i64 (fst0 (endErr n l))) ∧ Below w.heap.size w w' := by
  obtain ⟨A, c, rfl, hc1, hc2, -⟩ := hl
  have hg2 := hg
  obtain ⟨A2, c2, rfl, -, -, -⟩ := hg2
  have HG := hd hg
  clear hg
  unfold maxLen at hc2
  go_enter Tryz.func105, Tryz.ntmps105
  go_wp2_with fail
  have hb1 : ∀ o o', Below w.heap.size w ((w.alloc o).alloc o') := fun o o' => ((Below.refl _ w).alloc (Nat.le_refl _) _).alloc (by simp) _
  refine (eachEnds_any _ l n (w.heap.size + 1) _ ((HG.out.below (hb1 _ _) (Nat.le_refl _)).mono (by simp; omega)) ?_ ?_).mono ?_
  · have := World.cell?_alloc_new (w.alloc (.cells #[.string nm, .int .i64 st, .slice A n c, .slice A2 l.length c2] 34)) #[.int .i64 0, .int .i64 n] 82 0
    rw [World.size_alloc] at this; exact this
  · have := World.cell?_alloc_new (w.alloc (.cells #[.string nm, .int .i64 st, .slice A n c, .slice A2 l.length c2] 34)) #[.int .i64 0, .int .i64 n] 82 1
    rw [World.size_alloc] at this; exact this
  · rintro e w' ⟨rfl, hb2⟩
    go_wp2
    go_ret
    exact ⟨rfl, (hb1 _ _).trans (hb2.mono (by simp; omega))⟩
end Go.Proofs.YtcekfcefdmejeaaGreatDoor
