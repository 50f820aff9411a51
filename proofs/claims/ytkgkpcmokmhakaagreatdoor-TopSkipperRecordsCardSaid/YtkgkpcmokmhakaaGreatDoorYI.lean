/-
  gauge.readHeading. Condition: at most 90000 bytes.
  Plain words: lines with and without their line feed.
  Plain words: an integer's float32 over 16 is always told.
  Plain words: what CheckLevel says of an integer's sixteenths. No program.
  Plain words: the lines of a text, as both sides read them. No program.
-/
import Derived.Test.YtkgkpcmokmhakaaGreatDoorProg
import Derived.Test.YtkgkpcmokmhakaaGreatDoorYA
import Derived.Test.YtkgkpcmokmhakaaGreatDoorFB
import Derived.Test.YtkgkpcmokmhakaaGreatDoorKB

namespace Go.Proofs.YtkgkpcmokmhakaaGreatDoor
open Go.RowKit
attribute [local go_sem] Oper.semAt_some

theorem getD_le (s : ByteArray) (c : Nat) (k : Nat) : ((spl s c).getD k ⟨#[]⟩).size ≤ s.size := by
  rw [List.getD_eq_getElem?_getD]
  cases h : (spl s c)[k]? with
  | none => exact Nat.zero_le _
  | some x => exact spl_mem s c x (List.mem_of_getElem? h)
theorem tail_hd (l : List ByteArray) : l.tail.headD ⟨#[]⟩ = l.getD 1 ⟨#[]⟩ := by
  rcases l with _ | ⟨a, _ | ⟨b, l⟩⟩ <;> rfl
theorem tail2_hd (l : List ByteArray) : l.tail.tail.headD ⟨#[]⟩ = l.getD 2 ⟨#[]⟩ := by
  rcases l with _ | ⟨a, _ | ⟨b, _ | ⟨c, l⟩⟩⟩ <;> rfl
/-- The words that are left don't change where all that was there stays. -/
theorem wds_below {p : Nat} {l : List ByteArray} {W W' : World} (h : Wds p l W) (hb : Below W.heap.size W W') (hp : p < W.heap.size) : Wds p l W' := by
  obtain ⟨A, h1, h2⟩ := h
  refine ⟨A, (hb.block p hp).trans h1, fun hne => ?_⟩
  obtain ⟨g, o, hA, hg, hc⟩ := h2 hne
  refine ⟨g, o, hA, hg, fun j u hu => ?_⟩
  have h3 := hc j u hu
  have hlt := World.block_lt_of_cell? _ _ h3
  unfold World.cell? at h3 ⊢
  rw [hb.block g hlt]
  exact h3
set_option maxRecDepth 1000000 in
set_option maxHeartbeats 4000000 in
theorem readHeading_any (s : ByteArray) (m : Int) (w : World) (hs : s.size ≤ 90000) (hm : w.cell? ⟨2, 0, none⟩ = some (.int .i64 m)) : Calls Tryz.prog 79 #[.string s] w fun e w' => e = .returned (.tuple #[.string ((spl (lfB s) 32).getD 1 ⟨#[]⟩), .int .i64 (((numB ((spl (lfB s) 32).getD 2 ⟨#[]⟩)).getD 0 : Nat) : Int), .bool (lfN s && (((spl (lfB s) 32).headD ⟨#[]⟩).toList == [103, 97, 117, 103, 101]) && !(((spl (lfB s) 32).getD 1 ⟨#[]⟩).toList == []) && (numB ((spl (lfB s) 32).getD 2 ⟨#[]⟩)).isSome && decide ((spl (lfB s) 32).tail.tail.tail.length = 0))]) ∧ Below w.heap.size w w' := by
  have HR := hd (read_w s m w (by omega) hm)
  have hb : (lfB s).size ≤ s.size := by unfold lfB; split; simp; omega
  have hx := getD_le (lfB s) 32 2
  have hn : (spl (lfB s) 32).length ≤ 100000 := by rw [show (32 : Nat) = (32 : UInt8).toNat from rfl, spl_len]; have := Lib.countB_le ⟨#[32]⟩ (by show 1 ≤ 1; omega) (lfB s).size (lfB s) (Nat.le_refl _); omega
  have HU := hd (fun W => unsigned_any ((spl (lfB s) 32).getD 2 ⟨#[]⟩) W (by omega))
  rw [← tail_hd, ← tail2_hd] at *
  clear hb hx hm hs
  generalize hl : spl (lfB s) 32 = l at *
  have h1 : l.tail.length ≤ 100000 := by simp; omega
  have h2 : l.tail.tail.length ≤ 100000 := by simp; omega
  have HN1 := hd (fun p W h => next_w p l W hn h)
  have HN2 := hd (fun p W h => next_w p l.tail W h1 h)
  have HN3 := hd (fun p W h => next_w p l.tail.tail W h2 h)
  have HD := hd (fun p W h => done_any p l.tail.tail.tail W h)
  clear h1 h2 hn hl
  generalize l.tail.tail.tail = l3 at *
  generalize l.tail.tail.headD ⟨#[]⟩ = x2 at *
  generalize l.tail.tail = l2 at *
  generalize l.tail.headD ⟨#[]⟩ = x1 at *
  generalize l.tail = l1 at *
  generalize l.headD ⟨#[]⟩ = x0 at *
  generalize lfN s = ng at *
  generalize (numB x2).isSome = q3 at *
  generalize (numB x2).getD 0 = nn at *
  generalize decide (l3.length = 0) = q4 at *
  cases ng
  · go_enter Tryz.func79, Tryz.ntmps79
    go_wp2_with fail
    refine HR.out.mono ?_
    rintro e w1 ⟨rfl, hw1, hs1, hb1⟩
    go_wp2_with fail
    refine (HN1.out _ _ hw1).mono ?_
    rintro e w2 ⟨rfl, hw2, hs2, hb2⟩
    go_wp2_with fail
    refine (HN2.out _ _ hw2).mono ?_
    rintro e w3 ⟨rfl, hw3, hs3, hb3⟩
    go_wp2_with fail
    refine (HN3.out _ _ hw3).mono ?_
    rintro e w4 ⟨rfl, hw4, hs4, hb4⟩
    go_wp2_with fail
    refine (HU.out _).mono ?_
    rintro e w5 ⟨rfl, hb5⟩
    go_wp2_with fail
    go_returns
    exact ⟨by simp [*], (((hb1.trans (hb2.mono (by omega))).trans (hb3.mono (by omega))).trans (hb4.mono (by omega))).trans (hb5.mono (by omega))⟩
  · cases hq0 : (x0.toList == [103, 97, 117, 103, 101])
    · go_enter Tryz.func79, Tryz.ntmps79
      go_wp2_with fail
      refine HR.out.mono ?_
      rintro e w1 ⟨rfl, hw1, hs1, hb1⟩
      go_wp2_with fail
      refine (HN1.out _ _ hw1).mono ?_
      rintro e w2 ⟨rfl, hw2, hs2, hb2⟩
      go_wp2_with fail
      refine (HN2.out _ _ hw2).mono ?_
      rintro e w3 ⟨rfl, hw3, hs3, hb3⟩
      go_wp2_with fail
      refine (HN3.out _ _ hw3).mono ?_
      rintro e w4 ⟨rfl, hw4, hs4, hb4⟩
      go_wp2_with fail
      refine (HU.out _).mono ?_
      rintro e w5 ⟨rfl, hb5⟩
      go_wp2_with fail
      go_returns
      exact ⟨by simp [*], (((hb1.trans (hb2.mono (by omega))).trans (hb3.mono (by omega))).trans (hb4.mono (by omega))).trans (hb5.mono (by omega))⟩
    · cases hq1 : (x1.toList == [])
      · cases q3
        · go_enter Tryz.func79, Tryz.ntmps79
          go_wp2_with fail
          refine HR.out.mono ?_
          rintro e w1 ⟨rfl, hw1, hs1, hb1⟩
          go_wp2_with fail
          refine (HN1.out _ _ hw1).mono ?_
          rintro e w2 ⟨rfl, hw2, hs2, hb2⟩
          go_wp2_with fail
          refine (HN2.out _ _ hw2).mono ?_
          rintro e w3 ⟨rfl, hw3, hs3, hb3⟩
          go_wp2_with fail
          refine (HN3.out _ _ hw3).mono ?_
          rintro e w4 ⟨rfl, hw4, hs4, hb4⟩
          go_wp2_with fail
          refine (HU.out _).mono ?_
          rintro e w5 ⟨rfl, hb5⟩
          go_wp2_with fail
          go_returns
          exact ⟨by simp [*], (((hb1.trans (hb2.mono (by omega))).trans (hb3.mono (by omega))).trans (hb4.mono (by omega))).trans (hb5.mono (by omega))⟩
        · go_enter Tryz.func79, Tryz.ntmps79
          go_wp2_with fail
          refine HR.out.mono ?_
          rintro e w1 ⟨rfl, hw1, hs1, hb1⟩
          go_wp2_with fail
          refine (HN1.out _ _ hw1).mono ?_
          rintro e w2 ⟨rfl, hw2, hs2, hb2⟩
          go_wp2_with fail
          refine (HN2.out _ _ hw2).mono ?_
          rintro e w3 ⟨rfl, hw3, hs3, hb3⟩
          go_wp2_with fail
          refine (HN3.out _ _ hw3).mono ?_
          rintro e w4 ⟨rfl, hw4, hs4, hb4⟩
          go_wp2_with fail
          refine (HU.out _).mono ?_
          rintro e w5 ⟨rfl, hb5⟩
          go_wp2_with fail
          refine (HD.out _ _ (wds_below hw4 hb5 (by omega))).mono ?_
          rintro e w6 ⟨rfl, rfl⟩
          go_wp2_with fail
          go_returns
          exact ⟨by simp [*], (((hb1.trans (hb2.mono (by omega))).trans (hb3.mono (by omega))).trans (hb4.mono (by omega))).trans (hb5.mono (by omega))⟩
      · go_enter Tryz.func79, Tryz.ntmps79
        go_wp2_with fail
        refine HR.out.mono ?_
        rintro e w1 ⟨rfl, hw1, hs1, hb1⟩
        go_wp2_with fail
        refine (HN1.out _ _ hw1).mono ?_
        rintro e w2 ⟨rfl, hw2, hs2, hb2⟩
        go_wp2_with fail
        refine (HN2.out _ _ hw2).mono ?_
        rintro e w3 ⟨rfl, hw3, hs3, hb3⟩
        go_wp2_with fail
        refine (HN3.out _ _ hw3).mono ?_
        rintro e w4 ⟨rfl, hw4, hs4, hb4⟩
        go_wp2_with fail
        refine (HU.out _).mono ?_
        rintro e w5 ⟨rfl, hb5⟩
        go_wp2_with fail
        go_returns
        exact ⟨by simp [*], (((hb1.trans (hb2.mono (by omega))).trans (hb3.mono (by omega))).trans (hb4.mono (by omega))).trans (hb5.mono (by omega))⟩
end Go.Proofs.YtkgkpcmokmhakaaGreatDoor

namespace Go.Proofs.YtkgkpcmokmhakaaGreatDoor

theorem frm_no (s : ByteArray) (c : Nat) : ∀ k i, frm s c k ≤ i → i < k → bAt s i ≠ c
  | 0, i, _, h => by omega
  | k + 1, i, h1, h2 => by
    rw [frm] at h1
    split at h1
    · omega
    · rename_i hq
      by_cases he : i = k
      · rw [he]; exact hq
      · exact frm_no s c k i h1 (by omega)
theorem bAt_ext (s : ByteArray) (a b i : Nat) (h : i < b - a) : bAt (s.extract a b) i = bAt s (a + i) := by
  unfold bAt
  rw [Lib.extract_data, List.getD_eq_getElem?_getD, List.getD_eq_getElem?_getD, List.getElem?_take_of_lt h, List.getElem?_drop]
/-- A line with its line feed. -/
theorem lf_app (x : ByteArray) : lfN (x ++ ⟨#[10]⟩) = true ∧ lfB (x ++ ⟨#[10]⟩) = x := by
  have hl : x.data.toList.length = x.size := by simp
  have hs : (x ++ (⟨#[10]⟩ : ByteArray)).size = x.size + 1 := by simp; rfl
  have hd : (x ++ (⟨#[10]⟩ : ByteArray)).data.toList = x.data.toList ++ [10] := by simp
  have hp : 0 < (x ++ (⟨#[10]⟩ : ByteArray)).size ∧ bAt (x ++ ⟨#[10]⟩) ((x ++ (⟨#[10]⟩ : ByteArray)).size - 1) = 10 := by
    refine ⟨by omega, ?_⟩
    unfold bAt
    rw [hd, hs, List.getD_eq_getElem?_getD, List.getElem?_append_right (by omega), hl]
    simp
  refine ⟨by unfold lfN; exact decide_eq_true hp, ?_⟩
  unfold lfB
  rw [if_pos hp, hs]
  have h1 : [(x ++ (⟨#[10]⟩ : ByteArray)).extract 0 (x.size + 1 - 1)] = [x] := bytes_inj (by
    simp only [List.map_cons, List.map_nil]
    rw [Lib.extract_data, hd]
    congr 1
    rw [show x.size + 1 - 1 - 0 = x.data.toList.length by omega]
    simp)
  simpa using h1
/-- The last part of a text has no line feed. -/
theorem lf_last (s : ByteArray) : lfN (s.extract (frm s 10 s.size) s.size) = false := by
  have hf := frm_le s 10 s.size
  have hz : (s.extract (frm s 10 s.size) s.size).size = s.size - frm s 10 s.size := by simp
  unfold lfN
  rw [hz, decide_eq_false_iff_not]
  rintro ⟨h0, h1⟩
  rw [bAt_ext s _ _ _ (by omega)] at h1
  exact frm_no s 10 s.size _ (by omega) (by omega) h1
end Go.Proofs.YtkgkpcmokmhakaaGreatDoor

namespace Go.Proofs.YtkgkpcmokmhakaaGreatDoor
open Go.RowKit
open Ieee (Format Datum)

/-- The nearest word is no NaN. -/
theorem nearest_rung (f : Format) (neg : Bool) (mag : Nat) (place : Int) : ∃ r, r ≤ f.infRung ∧ f.nearest neg mag place = f.word neg r := by
  unfold Format.nearest
  split
  · exact ⟨0, Nat.zero_le _, by simp [Format.word]⟩
  · exact ⟨_, Nat.min_le_right _ _, rfl⟩
theorem nearest_read (f : Format) (neg : Bool) (mag : Nat) (place : Int) (s : Bool) (t : Nat) : f.read (f.nearest neg mag place) ≠ .nan s t := by
  obtain ⟨r, hr, he⟩ := nearest_rung f neg mag place
  have hsw := sw_eq f
  have hb : 0 < f.binade := Nat.two_pow_pos _
  have hlt : f.infRung < f.signWeight := by omega
  have hm : f.word neg r % f.signWeight = r := by
    unfold Format.word
    split
    · rw [Nat.add_mod_left, Nat.mod_eq_of_lt (by omega)]
    · exact Nat.mod_eq_of_lt (by omega)
  rw [he]
  unfold Format.read
  simp only
  rw [hm]
  intro h
  split at h
  · cases h
  · split at h
    · cases h
    · rw [if_pos (by omega)] at h; cases h
theorem quo_told (n : Int) : floatBits .quo .f32 (floatOfInt .f32 n) 1098907648 = some (lvQ n) := by
  have h : (floatBits .quo .f32 (floatOfInt .f32 n) 1098907648).isSome = true := by
    unfold floatBits floatOfInt
    have hy : ∃ m e, FloatKind.f32.format.read 1098907648 = .number false (m + 1) e := ⟨_, _, rfl⟩
    obtain ⟨m, e, hy⟩ := hy
    show (FloatKind.f32.format.div _ _).isSome = true
    unfold Format.div
    rw [hy]
    have hn := nearest_read FloatKind.f32.format (decide (n < 0)) n.natAbs 0
    have he : FloatKind.f32.nearest n = FloatKind.f32.format.nearest (decide (n < 0)) n.natAbs 0 := rfl
    rw [he]
    cases hx : FloatKind.f32.format.read (FloatKind.f32.format.nearest (decide (n < 0)) n.natAbs 0) with
    | nan s t => exact absurd hx (hn s t)
    | infinity s => rfl
    | number s a b =>
      simp [Datum.quotient]
  unfold lvQ
  cases hq : floatBits .quo .f32 (floatOfInt .f32 n) 1098907648 with
  | none => rw [hq] at h; cases h
  | some v => rfl
end Go.Proofs.YtkgkpcmokmhakaaGreatDoor

namespace Go.Proofs.YtkgkpcmokmhakaaGreatDoor
open Go.RowKit
open Ieee (Format Datum Toward)

theorem cut_even_bounds (neg : Bool) (n d : Nat) (h : d ≤ n.log2 + 2) : n / 2 ^ d ≤ Toward.even.cut neg n d ∧ Toward.even.cut neg n d ≤ n / 2 ^ d + 1 := by
  unfold Toward.cut
  simp only
  rw [Nat.min_eq_left h, Nat.shiftLeft_eq, Nat.one_mul]
  generalize (decide (2 ^ d < 2 * (n % 2 ^ d)) || 2 ^ d == 2 * (n % 2 ^ d) && n / 2 ^ d % 2 == 1) = b
  cases b <;> simp
theorem sgl_lpN : Ieee.single.leastPlace = -149 := by decide
/-- The nearest float32 of a number in the middle of the range. -/
theorem near_mid (neg : Bool) (mag : Nat) (place : Int) (E : Nat) (h0 : 0 < mag) (hE : place + mag.log2 = (E : Int)) (h100 : E ≤ 100) : ∃ r, Ieee.single.nearest neg mag place = Ieee.single.word neg r ∧ (E + 127) * 8388608 ≤ r ∧ r ≤ (E + 128) * 8388608 := by
  have l1 : 2 ^ mag.log2 ≤ mag := Nat.log2_self_le (by omega)
  have l2 : mag < 2 ^ (mag.log2 + 1) := Nat.lt_log2_self
  have e23 : Ieee.single.fractionBits = 23 := rfl
  have eb : Ieee.single.binade = 8388608 := by decide
  have ei : Ieee.single.infRung = 2139095040 := by decide
  unfold Format.nearest
  rw [if_neg (by omega)]
  simp only
  rw [sgl_lpN, e23, eb, ei]
  have hlast : max (place + (mag.log2 : Int) - (23 : Nat)) (-149) = (E : Int) - 23 := by omega
  rw [hlast]
  have hk : 8388608 ≤ Toward.even.cut neg (mag <<< (place - ((E : Int) - 23)).toNat) ((E : Int) - 23 - place).toNat ∧ Toward.even.cut neg (mag <<< (place - ((E : Int) - 23)).toNat) ((E : Int) - 23 - place).toNat ≤ 16777216 := by
    rcases Nat.le_total mag.log2 23 with h | h
    · have e1 : (place - ((E : Int) - 23)).toNat = 23 - mag.log2 := by omega
      have e2 : ((E : Int) - 23 - place).toNat = 0 := by omega
      rw [e1, e2]
      have hb := cut_even_bounds neg (mag <<< (23 - mag.log2)) 0 (by omega)
      rw [Nat.shiftLeft_eq] at hb ⊢
      rw [Nat.pow_zero, Nat.div_one] at hb
      have p : (8388608 : Nat) = 2 ^ mag.log2 * 2 ^ (23 - mag.log2) := by rw [← Nat.pow_add, show mag.log2 + (23 - mag.log2) = 23 by omega]
      have p2 : (16777216 : Nat) = 2 ^ (mag.log2 + 1) * 2 ^ (23 - mag.log2) := by rw [← Nat.pow_add, show mag.log2 + 1 + (23 - mag.log2) = 24 by omega]
      have h1 := Nat.mul_le_mul_right (2 ^ (23 - mag.log2)) l1
      have h2 := Nat.mul_lt_mul_of_pos_right l2 (Nat.two_pow_pos (23 - mag.log2))
      omega
    · have e1 : (place - ((E : Int) - 23)).toNat = 0 := by omega
      have e2 : ((E : Int) - 23 - place).toNat = mag.log2 - 23 := by omega
      rw [e1, e2, Nat.shiftLeft_eq, Nat.pow_zero, Nat.mul_one]
      have hb := cut_even_bounds neg mag (mag.log2 - 23) (by omega)
      have hd := Nat.two_pow_pos (mag.log2 - 23)
      have h1 : 8388608 ≤ mag / 2 ^ (mag.log2 - 23) := by
        rw [Nat.le_div_iff_mul_le hd]
        refine Nat.le_trans ?_ l1
        rw [show (8388608 : Nat) = 2 ^ 23 by decide, ← Nat.pow_add, show 23 + (mag.log2 - 23) = mag.log2 by omega]
        exact Nat.le_refl _
      have h2 : mag / 2 ^ (mag.log2 - 23) < 16777216 := by
        rw [Nat.div_lt_iff_lt_mul hd]
        refine Nat.lt_of_lt_of_le l2 ?_
        rw [show (16777216 : Nat) = 2 ^ 24 by decide, ← Nat.pow_add, show 24 + (mag.log2 - 23) = mag.log2 + 1 by omega]
        exact Nat.le_refl _
      omega
  obtain ⟨k1, k2⟩ := hk
  generalize Toward.even.cut neg (mag <<< (place - ((E : Int) - 23)).toNat) ((E : Int) - 23 - place).toNat = K at *
  have e3 : ((E : Int) - 23 - -149).toNat = E + 126 := by omega
  rw [e3]
  refine ⟨_, rfl, ?_, ?_⟩
  · rw [Nat.min_eq_left (by omega)]; omega
  · rw [Nat.min_eq_left (by omega)]; omega
/-- What such a float32 is. -/
theorem read_mid (neg : Bool) (r E : Nat) (h1 : (E + 127) * 8388608 ≤ r) (h2 : r ≤ (E + 128) * 8388608) (h3 : E ≤ 100) : ∃ m e, Ieee.single.read (Ieee.single.word neg r) = .number neg m e ∧ 8388608 ≤ m ∧ m < 16777216 ∧ (e = (E : Int) - 23 ∨ e = (E : Int) - 22) := by
  have eb : Ieee.single.binade = 8388608 := by decide
  have ei : Ieee.single.infRung = 2139095040 := by decide
  have es : Ieee.single.signWeight = 2147483648 := by decide
  have hm : Ieee.single.word neg r % 2147483648 = r := by unfold Format.word; rw [es]; split <;> omega
  have hd : (Ieee.single.word neg r / 2147483648 % 2 == 1) = neg := by
    unfold Format.word; rw [es]
    cases neg
    · rw [beq_eq_false_iff_ne]; simp only [Bool.false_eq_true, if_false]; omega
    · rw [beq_iff_eq]; simp only [if_true]; omega
  unfold Format.read
  simp only
  rw [es, eb, ei, sgl_lpN, hm, hd, if_neg (by omega), if_pos (by omega)]
  exact ⟨_, _, rfl, by omega, by omega, by omega⟩
/-- A sixteenth of a large integer, as a float32. -/
theorem quo_mid (neg : Bool) (mag : Nat) (h1 : 2048 ≤ mag) (h2 : mag < 1073741824) : ∃ q, Ieee.single.div (Ieee.single.nearest neg mag 0) 1098907648 = some q ∧ ∃ s m e, Ieee.single.read q = .number s m e ∧ 8388608 ≤ m ∧ m < 16777216 ∧ -16 ≤ e ∧ e ≤ 10 := by
  have l1 : 11 ≤ mag.log2 := (Nat.le_log2 (by omega)).2 h1
  have l2 : mag.log2 < 30 := (Nat.log2_lt (by omega)).2 h2
  obtain ⟨r, hr, hr1, hr2⟩ := near_mid neg mag 0 mag.log2 (by omega) (by omega) (by omega)
  obtain ⟨m, e, hre, hm1, hm2, he⟩ := read_mid neg r mag.log2 hr1 hr2 (by omega)
  rw [hr]
  have hy : Ieee.single.read 1098907648 = .number false 8388608 (-19) := by decide
  have lm : m.log2 = 23 := by
    have a1 : 23 ≤ m.log2 := (Nat.le_log2 (by omega)).2 hm1
    have a2 : m.log2 < 24 := (Nat.log2_lt (by omega)).2 hm2
    omega
  have l16 : Nat.log2 8388608 = 23 := by decide
  have e23 : Ieee.single.fractionBits = 23 := rfl
  have hq : Ieee.single.div (Ieee.single.word neg r) 1098907648 = some (Ieee.single.nearest neg (8 * m) (e - 7)) := by
    unfold Format.div
    rw [hre, hy]
    unfold Datum.quotient
    simp only
    rw [if_neg (by omega), l16, lm, e23]
    have hd : m <<< (23 + 2 + 23 - 23) / 8388608 = 4 * m := by rw [Nat.shiftLeft_eq]; omega
    have hr0 : m <<< (23 + 2 + 23 - 23) % 8388608 = 0 := by rw [Nat.shiftLeft_eq]; omega
    rw [hd, hr0]
    show some (Ieee.single.nearest (neg ^^ false) (2 * (4 * m) + 0) (e - -19 - (23 + 2 + 23 - 23 : Nat) - 1)) = _
    rw [show e - -19 - ((23 + 2 + 23 - 23 : Nat) : Int) - 1 = e - 7 by omega, show 2 * (4 * m) + 0 = 8 * m by omega, Bool.xor_false]
  have l8 : (8 * m).log2 = 26 := by
    have a1 : 26 ≤ (8 * m).log2 := (Nat.le_log2 (by omega)).2 (by omega)
    have a2 : (8 * m).log2 < 27 := (Nat.log2_lt (by omega)).2 (by omega)
    omega
  obtain ⟨r', hr', hr1', hr2'⟩ := near_mid neg (8 * m) (e - 7) (e + 19).toNat (by omega) (by omega) (by omega)
  obtain ⟨m', e', hre', hm1', hm2', he'⟩ := read_mid neg r' (e + 19).toNat hr1' hr2' (by omega)
  exact ⟨_, hq, neg, m', e', by rw [hr']; exact hre', hm1', hm2', by omega, by omega⟩

theorem lev_small : (List.range 4096).all (fun k => decide (chkLev (lvQ ((k : Int) - 2048)) = if k < 1024 ∨ 3072 < k then 3 else 0)) = true := by decide +kernel
theorem lvQ_zero : lvQ 0 = 0 := by decide +kernel
/-- What CheckLevel says of sixteenths. -/
theorem lev_lvQ (n : Int) (h1 : -999999999 ≤ n) (h2 : n ≤ 999999999) : chkLev (lvQ n) = if n < -1024 ∨ 1024 < n then 3 else 0 := by
  by_cases hs : n.natAbs < 2048
  · have h := List.all_eq_true.1 lev_small (n + 2048).toNat (by simp; omega)
    have e : (((n + 2048).toNat : Nat) : Int) - 2048 = n := by omega
    rw [e] at h
    rw [of_decide_eq_true h]
    by_cases hc : n < -1024 ∨ 1024 < n
    · rw [if_pos hc, if_pos (by omega)]
    · rw [if_neg hc, if_neg (by omega)]
  · obtain ⟨q, hq, s, m, e, hr, hm1, hm2, he1, he2⟩ := quo_mid (decide (n < 0)) n.natAbs (by omega) (by omega)
    have hv : lvQ n = q := by
      have h : floatBits .quo .f32 (floatOfInt .f32 n) 1098907648 = some q := hq
      unfold lvQ
      rw [h]; rfl
    have hd : FloatKind.f32.decode (lvQ n) = .number s m e := by rw [hv]; exact hr
    rw [if_pos (by omega)]
    unfold chkLev
    rw [hd]
    show (if _ then (0 : Int) else 3) = 3
    rw [if_neg]
    rintro ⟨-, hbig⟩
    unfold magOf oneU at hbig
    rw [dbl_lp] at hbig
    obtain ⟨c, hc⟩ : ∃ c : Nat, c + 16 = 1074 := ⟨1058, rfl⟩
    have e1 : (- -1074 : Int).toNat = c + 16 := by omega
    have e2 : (e - -1074).toNat = c + (e + 16).toNat := by omega
    rw [e1, e2, Nat.pow_add 2 c (e + 16).toNat, Nat.pow_add 2 c 16] at hbig
    have p1 : 1 ≤ 2 ^ (e + 16).toNat := Nat.two_pow_pos _
    have hQ : 0 < 2 ^ c := Nat.two_pow_pos c
    generalize 2 ^ c = Q at hbig hQ
    generalize 2 ^ (e + 16).toNat = K at hbig p1
    have p2 : 8388608 * Q ≤ m * Q := Nat.mul_le_mul_right _ hm1
    have p3 : m * Q ≤ m * (Q * K) := Nat.mul_le_mul_left m (Nat.le_mul_of_pos_right Q p1)
    have p4 : 64 * (Q * 2 ^ 16) = 4194304 * Q := by rw [Nat.mul_comm Q, ← Nat.mul_assoc]
    omega
end Go.Proofs.YtkgkpcmokmhakaaGreatDoor

namespace Go.Proofs.YtkgkpcmokmhakaaGreatDoor
open Go.RowKit

theorem prt_nil (s : ByteArray) (c : Nat) : ∀ k, prt s c k = [] → frm s c k = 0
  | 0, _ => rfl
  | k + 1, h => by
    rw [prt] at h
    by_cases hq : bAt s k = c
    · rw [if_pos hq] at h; simp at h
    · rw [if_neg hq] at h; rw [frm, if_neg hq]; exact prt_nil s c k h
theorem prt_some (s : ByteArray) (c : Nat) : ∀ k, prt s c k ≠ [] → ∃ i, i < k ∧ bAt s i = c
  | 0, h => absurd rfl h
  | k + 1, h => by
    by_cases hq : bAt s k = c
    · exact ⟨k, by omega, hq⟩
    · rw [prt, if_neg hq] at h
      obtain ⟨i, h1, h2⟩ := prt_some s c k h
      exact ⟨i, by omega, h2⟩
theorem spl_cnt (s : ByteArray) (c : Nat) : (spl s c).length = (prt s c s.size).length + 1 := by unfold spl; simp
theorem spl_one {s : ByteArray} {c : Nat} (h : (spl s c).length - 1 = 0) : (spl s c).headD ⟨#[]⟩ = s := by
  rw [spl_cnt] at h
  have hp : prt s c s.size = [] := List.eq_nil_of_length_eq_zero (by omega)
  have hf := prt_nil s c s.size hp
  unfold spl
  rw [hp, hf]
  show s.extract 0 s.size = s
  simp
theorem spl_more {s : ByteArray} {c : Nat} (h : ¬ (spl s c).length - 1 = 0) : ∃ i, i < s.size ∧ bAt s i = c := by
  rw [spl_cnt] at h
  exact prt_some s c s.size (fun e => by rw [e] at h; exact h rfl)
theorem digs_no {u : ByteArray} {i : Nat} (hi : i < u.size) (hb : bAt u i = 32) : digs u = false := by
  unfold digs
  exact List.all_eq_false.2 ⟨i, by simpa using hi, by rw [hb]; decide⟩
theorem numB_no {u : ByteArray} (h : digs u = false) : numB u = none := by
  unfold numB
  rw [h]; simp
theorem sgnB_blank {t : ByteArray} {i : Nat} (hi : i < t.size) (hb : bAt t i = 32) : sgnB t = none := by
  by_cases hc : 1 < t.size ∧ bAt t 0 = 45
  · have h0 : i ≠ 0 := fun e => by rw [e] at hb; omega
    have hz : (t.extract 1 t.size).size = t.size - 1 := by simp
    have hx : bAt (t.extract 1 t.size) (i - 1) = 32 := by rw [bAt_ext t 1 t.size (i - 1) (by omega), show 1 + (i - 1) = i by omega, hb]
    rw [sgnB_neg hc, numB_no (digs_no (i := i - 1) (by omega) hx)]
  · rw [sgnB_pos hc, numB_no (digs_no hi hb)]; rfl
/-- The line of a gap. -/
def dsh (t : ByteArray) : Bool := t.toList == [45]
theorem dsh_yes {t : ByteArray} (h : dsh t = true) : t.size = 1 ∧ bAt t 0 = 45 := by
  unfold dsh at h
  have h1 : t.toList = [45] := by simpa using h
  rw [ByteArray.toList_eq] at h1
  have hl : t.data.toList.length = t.size := by simp
  refine ⟨by rw [← hl, h1]; rfl, ?_⟩
  unfold bAt
  rw [h1]; rfl
theorem dsh_sgn {t : ByteArray} (h : dsh t = true) : sgnB t = none := by
  obtain ⟨h1, h2⟩ := dsh_yes h
  rw [sgnB_pos (by omega)]
  have : digs t = false := by unfold digs; exact List.all_eq_false.2 ⟨0, by simp; omega, by rw [h2]; decide⟩
  rw [numB_no this]; rfl
/-- Whether a line has the form of a level's, and the level that it has. -/
def lvOk (t : ByteArray) : Bool := dsh t || (sgnB t).isSome
def lvX (t : ByteArray) : Nat := lvQ ((sgnB t).getD 0)
theorem rl_ok {t : ByteArray} (h : lvOk t = true) : rlR true (spl t 32) = .tuple #[.float .f32 (lvX t), .bool (sgnB t).isSome, .bool true] := by
  unfold lvOk at h
  have hl : (spl t 32).length - 1 = 0 := by
    by_cases hl : (spl t 32).length - 1 = 0
    · exact hl
    · obtain ⟨i, hi, hb⟩ := spl_more hl
      rw [sgnB_blank hi hb] at h
      have h1 : dsh t = true := by simpa using h
      obtain ⟨h2, h3⟩ := dsh_yes h1
      have : i = 0 := by omega
      rw [this] at hb
      omega
  unfold rlR
  rw [if_pos ⟨rfl, hl⟩, spl_one hl]
  cases hd : dsh t
  · rw [hd, Bool.false_or] at h
    rw [if_neg (by unfold dsh at hd; rw [hd]; decide), h]
    rfl
  · rw [if_pos (show (t.toList == [45]) = true from hd)]
    unfold lvX
    rw [dsh_sgn hd]
    show _ = Value.tuple #[.float .f32 (lvQ 0), .bool false, .bool true]
    rw [lvQ_zero]
theorem rl_no {t : ByteArray} (h : lvOk t = false) : ∃ x b, rlR true (spl t 32) = .tuple #[.float .f32 x, .bool b, .bool false] := by
  unfold lvOk at h
  simp only [Bool.or_eq_false_iff] at h
  obtain ⟨h1, h2⟩ := h
  unfold rlR
  by_cases hl : (spl t 32).length - 1 = 0
  · rw [if_pos ⟨rfl, hl⟩, spl_one hl, if_neg (by unfold dsh at h1; rw [h1]; decide), h2]
    exact ⟨_, _, rfl⟩
  · rw [if_neg (fun e => hl e.2)]
    exact ⟨_, _, rfl⟩
theorem rl_nolf (l : List ByteArray) : rlR false l = .tuple #[.float .f32 0, .bool false, .bool false] := if_neg (fun e => by cases e.1)
/-- Whether a line has the form of a heading. -/
def hdOk (h : ByteArray) : Bool := (((spl h 32).headD ⟨#[]⟩).toList == [103, 97, 117, 103, 101]) && !(((spl h 32).getD 1 ⟨#[]⟩).toList == []) && (numB ((spl h 32).getD 2 ⟨#[]⟩)).isSome && decide ((spl h 32).tail.tail.tail.length = 0)
/-- The lines of a text that are ended, and what stands behind the last one. -/
def tL (s : ByteArray) : List ByteArray := prt s 10 s.size
def tE (s : ByteArray) : ByteArray := s.extract (frm s 10 s.size) s.size
theorem spl_is (s : ByteArray) : spl s 10 = tL s ++ [tE s] := rfl
theorem spa_is (s : ByteArray) : spa s 10 = (tL s).map (· ++ ⟨#[10]⟩) ++ [tE s] := by
  obtain ⟨L, e, h1, h2⟩ := spa_spl s 10
  obtain ⟨ha, hb⟩ := List.append_inj' ((spl_is s).symm.trans h1) rfl
  rw [h2, ha, List.cons.inj hb |>.1]
theorem tE_nolf (s : ByteArray) : lfN (tE s) = false := lf_last s
theorem tL_len (s : ByteArray) : (tL s).length ≤ s.size := prt_len s 10 s.size
theorem tL_mem (s : ByteArray) : ∀ x ∈ tL s, x.size ≤ s.size := prt_mem s 10 s.size
theorem tE_size (s : ByteArray) : (tE s).size ≤ s.size := by unfold tE; simp
/-- The first line that has not the form of a level's. -/
def fbd (T : List ByteArray) : Nat := T.findIdx (fun t => !lvOk t)
theorem fbd_ok {T : List ByteArray} {i : Nat} (h : i < fbd T) : lvOk (T.getD i ⟨#[]⟩) = true := by
  have h1 := List.not_of_lt_findIdx h
  have hl : i < T.length := Nat.lt_of_lt_of_le h List.findIdx_le_length
  rw [List.getD_eq_getElem?_getD, List.getElem?_eq_getElem hl]
  simpa using h1
theorem fbd_no {T : List ByteArray} (h : fbd T < T.length) : lvOk (T.getD (fbd T) ⟨#[]⟩) = false := by
  have h1 := List.findIdx_getElem (p := fun t => !lvOk t) (w := h)
  have h2 : (!lvOk (T[fbd T]'h)) = true := h1
  rw [List.getD_eq_getElem?_getD, List.getElem?_eq_getElem h]
  show lvOk (T[fbd T]'h) = false
  cases hq : lvOk (T[fbd T]'h)
  · rfl
  · rw [hq] at h2; cases h2
theorem fbd_le (T : List ByteArray) : fbd T ≤ T.length := List.findIdx_le_length
theorem fbd_is {T : List ByteArray} {k : Nat} (hk : k < T.length) (h1 : ∀ i, i < k → lvOk (T.getD i ⟨#[]⟩) = true) (h2 : lvOk (T.getD k ⟨#[]⟩) = false) : fbd T = k := by
  rcases Nat.lt_trichotomy (fbd T) k with h | h | h
  · have := fbd_no (T := T) (by omega)
    rw [h1 _ h] at this; cases this
  · exact h
  · have := fbd_ok h
    rw [h2] at this; cases this
theorem fbd_all {T : List ByteArray} (h1 : ∀ i, i < T.length → lvOk (T.getD i ⟨#[]⟩) = true) : fbd T = T.length := by
  rcases Nat.lt_or_ge (fbd T) T.length with h | h
  · have := fbd_no h
    rw [h1 _ h] at this; cases this
  · have := fbd_le T; omega
def bsT (T : List ByteArray) : List Nat := T.map lvX
def msT (T : List ByteArray) : List Bool := T.map fun t => (sgnB t).isSome
def nsT (T : List ByteArray) : List Int := T.map fun t => (sgnB t).getD 0
def bigN (n : Int) : Bool := decide (n < -1024) || decide (1024 < n)
theorem sgnB_bound (t : ByteArray) : -999999999 ≤ (sgnB t).getD 0 ∧ (sgnB t).getD 0 ≤ 999999999 := by
  by_cases hc : 1 < t.size ∧ bAt t 0 = 45
  · rw [sgnB_neg hc]
    cases hn : numB (t.extract 1 t.size) with
    | none => simp
    | some n =>
      have := numB_bound _ hn
      simp only
      split
      · simp; omega
      · simp
  · rw [sgnB_pos hc]
    cases hn : numB t with
    | none => simp
    | some n =>
      have := numB_bound _ hn
      simp; omega
theorem lev_lvX (t : ByteArray) : chkLev (lvX t) = if bigN ((sgnB t).getD 0) then 3 else 0 := by
  have h := sgnB_bound t
  unfold lvX
  rw [lev_lvQ _ h.1 h.2]
  unfold bigN
  simp
theorem fst0_03 : ∀ (l : List Int), (∀ j, j < l.length → l.getD j 0 = 0 ∨ l.getD j 0 = 3) → (∃ j, j < l.length ∧ l.getD j 0 = 3) → fst0 l = 3
  | [], _, ⟨j, h, _⟩ => absurd h (by simp)
  | x :: l, h, ⟨j, hj, h3⟩ => by
    unfold fst0
    have h0 := h 0 (by simp)
    simp only [List.getD_cons_zero] at h0
    rcases h0 with h0 | h0
    · rw [if_pos h0]
      refine fst0_03 l (fun i hi => by have := h (i + 1) (by simpa using hi); simpa using this) ?_
      match j, hj, h3 with
      | 0, _, h3 => simp [h0] at h3
      | j + 1, hj, h3 => exact ⟨j, by simpa using hj, by simpa using h3⟩
    · rw [if_neg (by omega), h0]
/-- What CheckRecord says of a text's record. -/
theorem chk_txt (nm : ByteArray) (st : Int) (T : List ByteArray) (hn : T.length ≤ 4096) :
    chkRec nm st (asmK (bsT T) (msT T) T.length) (strF ((msT T).map (!·)) T.length) = if fst0 [unl (nameB nm) 8, rng st 0 100000] = 0 then (if (nsT T).any bigN then 3 else 0) else fst0 [unl (nameB nm) 8, rng st 0 100000] := by
  have hbl : (bsT T).length = T.length := by simp [bsT]
  have hml : (msT T).length = (bsT T).length := by simp [bsT, msT]
  have r1 : rec1 nm st T.length = fst0 [unl (nameB nm) 8, rng st 0 100000] := by
    have hm : most ((T.length : Nat) : Int) 4096 = 0 := if_pos (by omega)
    unfold rec1
    rw [hm]
    simp only [fst0, if_true]
  have hlv : ∀ j, j < T.length → chkLev ((bsT T).getD j 0) = if bigN ((sgnB (T.getD j ⟨#[]⟩)).getD 0) then 3 else 0 := fun j hj => by
    have : (bsT T).getD j 0 = lvX (T.getD j ⟨#[]⟩) := by simp [bsT, hj]
    rw [this, lev_lvX]
  have hal : (asmK (bsT T) (msT T) T.length).length = T.length := by rw [asmK_len, hbl]
  by_cases h1 : fst0 [unl (nameB nm) 8, rng st 0 100000] = 0
  · rw [if_pos h1]
    by_cases hb : (nsT T).any bigN = true
    · rw [if_pos hb]
      have h3 : fst0 (levErr (asmK (bsT T) (msT T) T.length)) = 3 := by
        apply fst0_03
        · intro j hj
          have hj : j < T.length := by rw [← hal]; simpa [levErr] using hj
          rw [levErr_at _ j (by omega), ← hbl, asmK_at _ _ j (by omega)]
          split
          · rw [hlv j hj]; split
            · exact .inr rfl
            · exact .inl rfl
          · exact .inl lev_zeroK
        · obtain ⟨n, hn1, hn2⟩ := List.any_eq_true.1 hb
          obtain ⟨j, hj, hjn⟩ := List.getElem_of_mem hn1
          have hj : j < T.length := by simpa [nsT] using hj
          refine ⟨j, by simpa [levErr, hal] using hj, ?_⟩
          have hN : (sgnB (T.getD j ⟨#[]⟩)).getD 0 = n := by rw [← hjn]; simp [nsT, hj]
          have hM : (msT T).getD j false = true := by
            have : (msT T).getD j false = (sgnB (T.getD j ⟨#[]⟩)).isSome := by simp [msT, hj]
            rw [this]
            cases hs : sgnB (T.getD j ⟨#[]⟩) with
            | some _ => rfl
            | none => rw [hs] at hN; rw [← hN] at hn2; revert hn2; decide
          rw [levErr_at _ j (by omega), ← hbl, asmK_at _ _ j (by omega), if_pos hM, hlv j hj, hN, if_pos hn2]
      unfold chkRec
      rw [hal, r1, if_pos h1]
      have h2 : rec2 (asmK (bsT T) (msT T) T.length) (strF ((msT T).map (!·)) T.length) = 3 := by
        unfold rec2
        rw [h3]; rfl
      rw [h2, if_neg (by decide)]
    · rw [if_neg hb]
      have hz : ∀ i, i < (bsT T).length → chkLev ((bsT T).getD i 0) = 0 := fun i hi => by
        rw [hlv i (by omega), if_neg]
        intro hc
        apply hb
        refine List.any_eq_true.2 ⟨_, ?_, hc⟩
        unfold nsT
        refine List.mem_map.2 ⟨T.getD i ⟨#[]⟩, ?_, rfl⟩
        rw [List.getD_eq_getElem?_getD, List.getElem?_eq_getElem (by omega)]
        exact List.getElem_mem _
      have hc0 : chkRec nm st (bsT T) [] = 0 := by
        have hlev : fst0 (levErr (bsT T)) = 0 := fst0_all _ (fun j hj => by
          have hj : j < (bsT T).length := by simpa [levErr] using hj
          rw [levErr_at _ j hj]; exact hz j hj)
        have h2 : rec2 (bsT T) [] = 0 := by unfold rec2; rw [hlev]; rfl
        unfold chkRec
        rw [hbl, r1, if_pos h1, if_pos h2]; rfl
      have := cleaned_ok nm st (bsT T) [] (msT T) hml (by omega) hc0 hz
      rw [hbl] at this
      exact this
  · rw [if_neg h1]
    unfold chkRec
    rw [hal, r1, if_neg h1]
/-- What a text is: its name, start, levels and gaps, its error, and the line at fault. -/
def tHd (s : ByteArray) : ByteArray := (tL s).headD ⟨#[]⟩
def tT (s : ByteArray) : List ByteArray := (tL s).tail
def hedB (s : ByteArray) : Bool := decide ((tL s).length ≠ 0) && hdOk (tHd s)
def tNm (s : ByteArray) : ByteArray := (spl (tHd s) 32).getD 1 ⟨#[]⟩
def tSt (s : ByteArray) : Int := ((numB ((spl (tHd s) 32).getD 2 ⟨#[]⟩)).getD 0 : Nat)
def tBs (s : ByteArray) : List Nat := asmK (bsT (tT s)) (msT (tT s)) (tT s).length
def tGs (s : ByteArray) : List (Int × Int) := strF ((msT (tT s)).map (!·)) (tT s).length
def synB (s : ByteArray) : Bool := !hedB s || decide (fbd (tT s) < (tT s).length) || decide ((tE s).size ≠ 0)
def txtE (s : ByteArray) : Int := if synB s then 26 else chkRec (tNm s) (tSt s) (tBs s) (tGs s)
def txtAt (s : ByteArray) : Nat := if synB s then (if hedB s then 1 + fbd (tT s) else 0) else if txtE s = 0 then 0 else (tL s).length
end Go.Proofs.YtkgkpcmokmhakaaGreatDoor
