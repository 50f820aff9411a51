/-
  The project's CheckRecord, of every record whose name is no longer than memory holds.
-/
import Derived.Test.YtcekfcefdmejeaaGreatDoorProg
import Derived.Test.YtcekfcefdmejeaaGreatDoorQ1
namespace Go.Proofs.YtcekfcefdmejeaaGreatDoor
open Go.RowKit

/-- A level that is 0, as Go compares it. -/
def zeroF (b : Nat) : Bool := !(FloatKind.f32.format.order b 0 != some .eq)
theorem zeroF_true {b : Nat} : zeroF b = true ↔ (FloatKind.f32.format.order b 0 != some .eq) = false := by unfold zeroF; cases (FloatKind.f32.format.order b 0 != some .eq) <;> simp
/-- All levels in gaps are 0. -/
def silB (bs : List Nat) (gs : List (Int × Int)) : Bool := gs.all fun s => (List.range bs.length).all fun i => !(decide (s.1 ≤ (i : Int)) && decide ((i : Int) < s.2)) || zeroF (bs.getD i 0)
theorem silB_true (bs : List Nat) (gs : List (Int × Int)) (he : ∀ s ∈ gs, s.2 ≤ (bs.length : Int)) : silB bs gs = true ↔ ∀ j, j < gs.length → ∀ i : Nat, (gs.getD j (0, 0)).1 ≤ i → (i : Int) < (gs.getD j (0, 0)).2 → (FloatKind.f32.format.order (bs.getD i 0) 0 != some .eq) = false := by
  unfold silB
  rw [List.all_eq_true]
  constructor
  · intro h j hj i h1 h2
    have hm := getD_mem gs j hj
    have h3 := h _ hm
    rw [List.all_eq_true] at h3
    have h4 := h3 i (List.mem_range.2 (by have := he _ hm; omega))
    rw [decide_eq_true h1, decide_eq_true h2] at h4
    exact zeroF_true.1 (by simpa using h4)
  · intro h s hs
    rw [List.all_eq_true]
    intro i hi
    obtain ⟨j, hj, rfl⟩ := List.mem_iff_getElem.1 hs
    by_cases h1 : (gs[j]).1 ≤ (i : Int) ∧ (i : Int) < (gs[j]).2
    · have e : gs.getD j (0, 0) = gs[j] := by simp [hj]
      have := h j hj i (by rw [e]; exact h1.1) (by rw [e]; exact h1.2)
      rw [zeroF_true.2 this, Bool.or_true]
    · have : (decide ((gs[j]).1 ≤ (i : Int)) && decide ((i : Int) < (gs[j]).2)) = false := by
        rw [Bool.and_eq_false_iff, decide_eq_false_iff_not, decide_eq_false_iff_not]; omega
      rw [this]; rfl

set_option maxRecDepth 100000 in
set_option maxHeartbeats 1000000 in
theorem isSilent_no (nm : ByteArray) (st : Int) (lv gv : Value) (bs : List Nat) (l : List (Int × Int)) (w : World) (hl : Rd w w.heap.size lv bs.length (flc bs)) (hg : Rd w w.heap.size gv l.length (spc l))
    (hok : ∀ j, j < l.length → 0 ≤ (l.getD j (0, 0)).1 ∧ (l.getD j (0, 0)).1 < (l.getD j (0, 0)).2 ∧ (l.getD j (0, 0)).2 ≤ (bs.length : Int))
    (hs : ¬ ∀ j, j < l.length → ∀ i : Nat, (l.getD j (0, 0)).1 ≤ i → (i : Int) < (l.getD j (0, 0)).2 → (FloatKind.f32.format.order (bs.getD i 0) 0 != some .eq) = false) :
    Calls Tryz.prog 106 #[.agg #[.string nm, .int .i64 st, lv, gv]] w fun e w' => e = .returned (.bool false) ∧ Below w.heap.size w w' := by
  obtain ⟨A, c, rfl, hc1, hc2, hcl⟩ := hl
  obtain ⟨A2, c2, rfl, hc3, hc4, hcg⟩ := hg
  have HL := hd hcl
  have HG := hd hcg
  have HOK := hd hok
  have HS := hd hs
  clear hcl hcg hok hs
  unfold maxLen at hc2 hc4
  go_enter Tryz.func106, Tryz.ntmps106
  go_wp2
  have c2' := World.cell?_alloc_new w #[.string nm, .int .i64 st, .slice A bs.length c, .slice A2 l.length c2] 34 2
  have c3' := World.cell?_alloc_new w #[.string nm, .int .i64 st, .slice A bs.length c, .slice A2 l.length c2] 34 3
  have hsz : w.heap.size < (w.alloc (Obj.cells #[.string nm, .int .i64 st, .slice A bs.length c, .slice A2 l.length c2] 34)).heap.size := by simp
  have hb1 : Below w.heap.size w (w.alloc (Obj.cells #[.string nm, .int .i64 st, .slice A bs.length c, .slice A2 l.length c2] 34)) := (Below.refl _ w).alloc (Nat.le_refl _) _
  generalize (w.alloc (Obj.cells #[.string nm, .int .i64 st, .slice A bs.length c, .slice A2 l.length c2] 34)) = W1 at c2' c3' hsz hb1 ⊢
  have k2 : W1.cell? ⟨w.heap.size, 2, none⟩ = some (.slice A bs.length c) := by simpa using c2'
  have k3 : W1.cell? ⟨w.heap.size, 3, none⟩ = some (.slice A2 l.length c2) := by simpa using c3'
  clear c2' c3'
  go_step3
  go_wp2
  go_step3
  go_wp2
  go_loopw [3, 11] (fun s i wr => ∃ k : Nat, k ≤ l.length ∧ i = .int .i64 k ∧ s = .bool true ∧ Below W1.heap.size W1 wr ∧ Hid (∀ j, j < k → ∀ i : Nat, (l.getD j (0, 0)).1 ≤ i → (i : Int) < (l.getD j (0, 0)).2 → (FloatKind.f32.format.order (bs.getD i 0) 0 != some .eq) = false)) (fun _ i _ => l.length - (intOf i).toNat)
  case atStart => exact ⟨0, Nat.zero_le _, rfl, rfl, Below.refl _ _, hd (fun j hj => absurd hj (by omega))⟩
  case round =>
    obtain ⟨k, hk, rfl, rfl, hb, HZ0⟩ := hrel
    by_cases hlt : k < l.length
    · obtain ⟨b2, off2, rfl, hbb2, hcell2⟩ := HG.out (by omega)
      obtain ⟨q1, q2⟩ := spc_getD l k hlt
      obtain ⟨o1, o2, o3⟩ := HOK.out k hlt
      have bw : ∀ b o, b < w.heap.size → wr.cell? ⟨b, o, none⟩ = w.cell? ⟨b, o, none⟩ := fun b o hlt => (hb.cell (p := ⟨b, o, none⟩) (Nat.lt_trans hlt hsz)).trans (hb1.cell (p := ⟨b, o, none⟩) hlt)
      have hs0 := (bw b2 _ hbb2).trans ((hcell2 (k * 2) (by rw [spc_len]; omega)).trans q1)
      have hs1 := (bw b2 _ hbb2).trans ((hcell2 (k * 2 + 1) (by rw [spc_len]; omega)).trans q2)
      rw [← Nat.add_assoc] at hs1
      clear hcell2 q1 q2
      have HF := hd (show ∀ f t, (l.getD k (0, 0)).1 = f → (l.getD k (0, 0)).2 = t → (∀ i : Nat, f ≤ (i : Int) → (i : Int) < t → (FloatKind.f32.format.order (bs.getD i 0) 0 != some .eq) = false) → ∀ j, j < k + 1 → ∀ i : Nat, (l.getD j (0, 0)).1 ≤ i → (i : Int) < (l.getD j (0, 0)).2 → (FloatKind.f32.format.order (bs.getD i 0) 0 != some .eq) = false from fun f t e1 e2 h j hj i h1 h2 => by
        by_cases e : j = k
        · subst e; exact h i (by rw [← e1]; exact h1) (by rw [← e2]; exact h2)
        · exact HZ0.out j (by omega) i h1 h2)
      replace HF := hd (HF.out _ _ rfl rfl)
      generalize (l.getD k (0, 0)).1 = f at *
      generalize (l.getD k (0, 0)).2 = t at *
      obtain ⟨f, rfl⟩ := Int.eq_ofNat_of_zero_le o1
      obtain ⟨t, rfl⟩ := Int.eq_ofNat_of_zero_le (show 0 ≤ t by omega)
      have o2' : f < t := by omega
      have o3' : t ≤ bs.length := by omega
      obtain ⟨b, off, rfl, hbb, hcell⟩ := HL.out (by omega)
      have hcl : ∀ o j, j < t - f → (wr.alloc o).cell? ⟨b, off + f + j, none⟩ = some (.float .f32 (bs.getD (f + j) 0)) := fun o j hj => by
        refine cell_alloc_old ((bw b _ hbb).trans ?_)
        rw [show off + f + j = off + (f + j) by omega, hcell (f + j) (by simp [flc]; omega)]
        simp [flc, show f + j < bs.length by omega]
      have HCL := hd hcl
      have HBW := hd bw
      have K2 := fun o => cell_alloc_old (o := o) ((hb.cell (p := ⟨w.heap.size, 2, none⟩) hsz).trans k2)
      have KSZ := hb.size
      clear hcl bw hcell k2 o1
      go_wp2
      have H0 := HCL.out (Obj.cells #[Value.int .i64 f, Value.int .i64 t] 82)
      have hb' : Below W1.heap.size W1 (wr.alloc (Obj.cells #[Value.int .i64 f, Value.int .i64 t] 82)) := hb.alloc hb.size _
      generalize (wr.alloc (Obj.cells #[Value.int .i64 f, Value.int .i64 t] 82)) = W3 at *
      have HZ := hd H0
      clear H0 K2 KSZ hs0 hs1
      go_loop [3, 23] (fun s i => ∃ j : Nat, j ≤ t - f ∧ i = .int .i64 j ∧ s = .bool true ∧ Hid (∀ i : Nat, i < j → (FloatKind.f32.format.order (bs.getD (f + i) 0) 0 != some .eq) = false)) (fun _ i => (t - f) - (intOf i).toNat)
      case atStart => exact ⟨0, Nat.zero_le _, rfl, rfl, hd (fun i hi => absurd hi (by omega))⟩
      case round =>
        obtain ⟨j, hj, rfl, rfl, HJ⟩ := hrel
        by_cases hjt : j < t - f
        · have hx := HZ.out j hjt
          have HX := hd (show ∀ x, bs.getD (f + j) 0 = x → (FloatKind.f32.format.order x 0 != some .eq) = false → ∀ i : Nat, i < j + 1 → (FloatKind.f32.format.order (bs.getD (f + i) 0) 0 != some .eq) = false from fun x e h i hi => by
            by_cases e2 : i = j
            · subst e2; rw [e]; exact h
            · exact HJ.out i (by omega))
          replace HX := hd (HX.out _ rfl)
          generalize bs.getD (f + j) 0 = x at hx HX
          cases hz : (FloatKind.f32.format.order x 0 != some .eq)
          · have HX2 := hd (HX.out hz)
            clear HX
            go_wp2
            go_round
            case rel => exact ⟨j + 1, by omega, by go_num, rfl, HX2⟩
            case measure => simp [intOf]; omega
          · clear HX
            go_wp2
            go_ret
            exact ⟨rfl, hb1.trans (hb'.mono hb1.size)⟩
        · have HN := hd (HF.out fun i h1 h2 => by
            have := HJ.out (i - f) (by omega)
            rwa [show f + (i - f) = i by omega] at this)
          clear HF
          go_wp2
          go_roundw
          case rel => exact ⟨k + 1, by omega, by go_num, rfl, hb', HN⟩
          case measure => simp [intOf]; omega
    · exact absurd (fun j hj => HZ0.out j (by omega)) HS.out

/-- The first errors of a record, as the project asks for them. -/
def rec1 (nm : ByteArray) (st : Int) (n : Nat) : Int := fst0 [unl (nameB nm) 8, rng st 0 100000, Go.Proofs.YtcekfcefdmejeaaGreatDoor.most (n : Int) 4096]
def rec2 (bs : List Nat) (gs : List (Int × Int)) : Int := fst0 [fst0 (levErr bs), chkSpans gs, fst0 (endErr (bs.length : Int) gs)]
/-- What CheckRecord says. -/
def chkRec (nm : ByteArray) (st : Int) (bs : List Nat) (gs : List (Int × Int)) : Int :=
  if rec1 nm st bs.length = 0 then (if rec2 bs gs = 0 then unl (silB bs gs) 1 else rec2 bs gs) else rec1 nm st bs.length

theorem fst0_each {l : List Int} (h : fst0 l = 0) (j : Nat) (hj : j < l.length) : l.getD j 0 = 0 := by
  induction l generalizing j with
  | nil => simp at hj
  | cons x l ih =>
    unfold fst0 at h
    split at h
    · rename_i hx
      match j with
      | 0 => simpa using hx
      | j + 1 => simpa using ih h j (by simpa using hj)
    · rename_i hx
      exact absurd h hx
theorem rec2_zero {bs : List Nat} {gs : List (Int × Int)} (h : rec2 bs gs = 0) : fst0 (levErr bs) = 0 ∧ chkSpans gs = 0 ∧ fst0 (endErr (bs.length : Int) gs) = 0 :=
  ⟨fst0_each h 0 (by simp), fst0_each h 1 (by simp), fst0_each h 2 (by simp)⟩
theorem ends_zero {n : Int} {gs : List (Int × Int)} (h : fst0 (endErr n gs) = 0) (j : Nat) (hj : j < gs.length) : (gs.getD j (0, 0)).2 ≤ n := by
  have h1 := fst0_each h j (by simpa [endErr] using hj)
  rw [endErr_at n gs j hj] at h1
  unfold endAt at h1
  split at h1
  · rename_i h2; omega
  · cases h1
end Go.Proofs.YtcekfcefdmejeaaGreatDoor
