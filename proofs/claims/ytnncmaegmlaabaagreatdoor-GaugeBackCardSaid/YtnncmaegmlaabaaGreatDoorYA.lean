/-
  Read and Next by what they leave, and gauge.readLevel. Conditions: written at each.
  gauge.readHeading. Condition: at most 90000 bytes.
  Plain words: an integer's float32 over 16 is always told.
  Plain words: what CheckLevel says of an integer's sixteenths. No program.
-/
import Derived.Test.YtnncmaegmlaabaaGreatDoorProg
import Derived.Test.YtnncmaegmlaabaaGreatDoorY4
import Derived.Test.YtnncmaegmlaabaaGreatDoorY0
import Derived.Test.YtnncmaegmlaabaaGreatDoorFB

namespace Go.Proofs.YtnncmaegmlaabaaGreatDoor
open Go.RowKit
attribute [local go_sem] Oper.semAt_some

theorem read_wds (w : World) (b : ByteArray) : Wds (w.heap.size + 1) (spl b 32) ((w.alloc (splO b 32)).alloc (.cells #[.slice (some ⟨w.heap.size, 0, none⟩) (spl b 32).length (spl b 32).length] 219)) := by
  have hs : (w.alloc (splO b 32)).heap.size = w.heap.size + 1 := by simp
  have h1 := blk_new (w.alloc (splO b 32)) #[.slice (some ⟨w.heap.size, 0, none⟩) (spl b 32).length (spl b 32).length] 219
  rw [hs] at h1
  refine ⟨some ⟨w.heap.size, 0, none⟩, h1, fun _ => ⟨w.heap.size, 0, rfl, by omega, fun j u hu => ?_⟩⟩
  rw [World.cell?_alloc_lt _ _ _ (by rw [hs]; exact Nat.lt_succ_self _)]
  unfold splO
  rw [blk_cell (blk_new _ _ _)]
  simpa using hu
theorem read_w (s : ByteArray) (m : Int) (w : World) (hs : s.size ≤ 100000) (hm : w.cell? ⟨2, 0, none⟩ = some (.int .i64 m)) : Calls Tryz.prog 137 #[.string s] w fun e w' => e = .returned (.tuple #[.pointer (some ⟨w.heap.size + 1, 0, none⟩), .bool (lfN s)]) ∧ Wds (w.heap.size + 1) (spl (lfB s) 32) w' ∧ w.heap.size + 1 < w'.heap.size ∧ Below w.heap.size w w' :=
  (read_any s m w hs hm).mono fun e w' ⟨he, hw⟩ => ⟨he, by rw [hw]; exact read_wds w (lfB s), by rw [hw]; simp, by rw [hw]; exact ((Below.refl _ w).alloc (Nat.le_refl _) _).alloc (by simp) _⟩
theorem next_w (p : Nat) (l : List ByteArray) (W : World) (hl : l.length ≤ 100000) (h : Wds p l W) : Calls Tryz.prog 138 #[.pointer (some ⟨p, 0, none⟩)] W fun e w' => e = .returned (.string (l.headD ⟨#[]⟩)) ∧ Wds p l.tail w' ∧ W.heap.size = w'.heap.size ∧ Below p W w' := by
  cases l with
  | nil => exact (next_nil p W h).mono fun e w' ⟨he, hw⟩ => ⟨he, by rw [hw]; exact h, by rw [hw], by rw [hw]; exact Below.refl _ _⟩
  | cons x l =>
    refine (next_cons p x l W (by simp at hl; omega) h).mono ?_
    rintro e w' ⟨he, v, hw, hd⟩
    exact ⟨he, hd, by rw [hw]; simp, by rw [hw]; exact (Below.refl p W).setCell (p := ⟨p, 0, none⟩) (Nat.le_refl _) v⟩
theorem prt_mem (s : ByteArray) (c : Nat) : ∀ k, ∀ x ∈ prt s c k, x.size ≤ s.size
  | 0, x, h => by simp [prt] at h
  | k + 1, x, h => by
    rw [prt] at h
    split at h
    · rcases List.mem_append.1 h with h | h
      · exact prt_mem s c k x h
      · simp at h; subst h; simp; omega
    · exact prt_mem s c k x h
theorem spl_mem (s : ByteArray) (c : Nat) : ∀ x ∈ spl s c, x.size ≤ s.size := by
  intro x h
  rcases List.mem_append.1 h with h | h
  · exact prt_mem s c _ x h
  · simp at h; subst h; simp
theorem headD_le (s : ByteArray) (c : Nat) : ((spl s c).headD ⟨#[]⟩).size ≤ s.size := by
  cases h : spl s c with
  | nil => exact Nat.zero_le _
  | cons x l => exact spl_mem s c x (by rw [h]; simp)
/-- Sixteenths as a float32. -/
def lvQ (n : Int) : Nat := (floatBits .quo .f32 (floatOfInt .f32 n) 1098907648).getD 0
/-- What readLevel gives, of a line's end and its words. -/
def rlR (ng : Bool) (l : List ByteArray) : Value :=
  if ng = true ∧ l.length - 1 = 0 then
    if ((l.headD ⟨#[]⟩).toList == [45]) = true then .tuple #[.float .f32 0, .bool false, .bool true]
    else .tuple #[.float .f32 (lvQ ((sgnB (l.headD ⟨#[]⟩)).getD 0)), .bool true, .bool (sgnB (l.headD ⟨#[]⟩)).isSome]
  else .tuple #[.float .f32 0, .bool false, .bool false]
set_option maxRecDepth 1000000 in
theorem readLevel_any (s : ByteArray) (m : Int) (w : World) (hs : s.size ≤ 90000) (hm : w.cell? ⟨2, 0, none⟩ = some (.int .i64 m))
    (hf : floatBits .quo .f32 (floatOfInt .f32 ((sgnB ((spl (lfB s) 32).headD ⟨#[]⟩)).getD 0)) 1098907648 = some (lvQ ((sgnB ((spl (lfB s) 32).headD ⟨#[]⟩)).getD 0))) : Calls Tryz.prog 106 #[.string s] w fun e w' => e = .returned (rlR (lfN s) (spl (lfB s) 32)) ∧ Below w.heap.size w w' := by
  have HR := hd (read_w s m w (by omega) hm)
  have hb : (lfB s).size ≤ s.size := by unfold lfB; split; simp; omega
  have hx := headD_le (lfB s) 32
  have hn : (spl (lfB s) 32).length ≤ 100000 := by rw [show (32 : Nat) = (32 : UInt8).toNat from rfl, spl_len]; have := Lib.countB_le ⟨#[32]⟩ (by show 1 ≤ 1; omega) (lfB s).size (lfB s) (Nat.le_refl _); omega
  have HN := hd (fun p W h => next_w p (spl (lfB s) 32) W hn h)
  have HD := hd (fun p W h => done_any p (spl (lfB s) 32).tail W h)
  have HI := hd (fun W => integer_any ((spl (lfB s) 32).headD ⟨#[]⟩) W (by omega))
  have HT := hd (show (spl (lfB s) 32).tail.length = (spl (lfB s) 32).length - 1 by simp)
  have HRL := hd (show rlR (lfN s) (spl (lfB s) 32) = rlR (lfN s) (spl (lfB s) 32) from rfl)
  conv at HRL => arg 1; rhs; unfold rlR
  clear hn hb hx hm hs
  generalize rlR (lfN s) (spl (lfB s) 32) = R at *
  generalize lfN s = ng at *
  generalize (spl (lfB s) 32).headD ⟨#[]⟩ = x at *
  cases ng
  · have HE := hd (HRL.out.trans (if_neg (fun h => by cases h.1)))
    clear HRL
    go_enter Tryz.func106, Tryz.ntmps106
    go_wp2_with fail
    refine HR.out.mono ?_
    rintro e w1 ⟨rfl, hw1, hs1, hb1⟩
    go_wp2_with fail
    refine (HN.out _ _ hw1).mono ?_
    rintro e w2 ⟨rfl, hw2, hs2, hb2⟩
    go_wp2_with fail
    go_returns
    exact ⟨by rw [HE.out]; rfl, hb1.trans (hb2.mono (by omega))⟩
  · by_cases hl : (spl (lfB s) 32).length - 1 = 0
    · have hd1 : decide ((spl (lfB s) 32).length - 1 = 0) = true := decide_eq_true hl
      cases hm : (x.toList == [45])
      · have HE := hd (HRL.out.trans ((if_pos ⟨rfl, hl⟩).trans (if_neg (by rw [hm]; decide))))
        clear HRL
        go_enter Tryz.func106, Tryz.ntmps106
        go_wp2_with fail
        refine HR.out.mono ?_
        rintro e w1 ⟨rfl, hw1, hs1, hb1⟩
        go_wp2_with fail
        refine (HN.out _ _ hw1).mono ?_
        rintro e w2 ⟨rfl, hw2, hs2, hb2⟩
        go_wp2_with fail
        refine (HD.out _ _ hw2).mono ?_
        rintro e w3 ⟨rfl, rfl⟩
        rw [HT.out, hd1]
        go_wp2_with fail
        refine (HI.out _).mono ?_
        rintro e w4 ⟨rfl, hb4⟩
        go_wp2_with fail
        rw [run_float_arith _ .quo _ _ _ _ _ hf]
        go_wp2_with fail
        go_returns
        exact ⟨by rw [HE.out]; rfl, (hb1.trans (hb2.mono (by omega))).trans (hb4.mono (by omega))⟩
      · have HE := hd (HRL.out.trans ((if_pos ⟨rfl, hl⟩).trans (if_pos hm)))
        clear HRL
        go_enter Tryz.func106, Tryz.ntmps106
        go_wp2_with fail
        refine HR.out.mono ?_
        rintro e w1 ⟨rfl, hw1, hs1, hb1⟩
        go_wp2_with fail
        refine (HN.out _ _ hw1).mono ?_
        rintro e w2 ⟨rfl, hw2, hs2, hb2⟩
        go_wp2_with fail
        refine (HD.out _ _ hw2).mono ?_
        rintro e w3 ⟨rfl, rfl⟩
        rw [HT.out, hd1]
        go_wp2_with fail
        go_returns
        exact ⟨by rw [HE.out]; rfl, hb1.trans (hb2.mono (by omega))⟩
    · have hd1 : decide ((spl (lfB s) 32).length - 1 = 0) = false := decide_eq_false hl
      have HE := hd (HRL.out.trans (if_neg (fun h => hl h.2)))
      clear HRL
      go_enter Tryz.func106, Tryz.ntmps106
      go_wp2_with fail
      refine HR.out.mono ?_
      rintro e w1 ⟨rfl, hw1, hs1, hb1⟩
      go_wp2_with fail
      refine (HN.out _ _ hw1).mono ?_
      rintro e w2 ⟨rfl, hw2, hs2, hb2⟩
      go_wp2_with fail
      refine (HD.out _ _ hw2).mono ?_
      rintro e w3 ⟨rfl, rfl⟩
      rw [HT.out, hd1]
      go_wp2_with fail
      go_returns
      exact ⟨by rw [HE.out]; rfl, hb1.trans (hb2.mono (by omega))⟩
end Go.Proofs.YtnncmaegmlaabaaGreatDoor

namespace Go.Proofs.YtnncmaegmlaabaaGreatDoor
open Go.RowKit
attribute [local go_sem] Oper.semAt_some

theorem getD_le (s : ByteArray) (c : Nat) (k : Nat) : ((spl s c).getD k ⟨#[]⟩).size ≤ s.size := by
  rw [List.getD_eq_getElem?_getD]
  cases h : (spl s c)[k]? with
  | none => exact Nat.zero_le _
  | some x => exact spl_mem s c x (List.mem_of_getElem? h)
theorem tail_hd (l : List ByteArray) : l.tail.headD ⟨#[]⟩ = l.getD 1 ⟨#[]⟩ := by
  rcases l with _ | ⟨a, _ | ⟨b, l⟩⟩ <;> rfl
theorem tail2_hd (l : List ByteArray) : l.tail.tail.headD ⟨#[]⟩ = l.getD 2 ⟨#[]⟩ := by
  rcases l with _ | ⟨a, _ | ⟨b, _ | ⟨c, l⟩⟩⟩ <;> rfl
/-- The words that are left don't change where all that was there stays. -/
theorem wds_below {p : Nat} {l : List ByteArray} {W W' : World} (h : Wds p l W) (hb : Below W.heap.size W W') (hp : p < W.heap.size) : Wds p l W' := by
  obtain ⟨A, h1, h2⟩ := h
  refine ⟨A, (hb.block p hp).trans h1, fun hne => ?_⟩
  obtain ⟨g, o, hA, hg, hc⟩ := h2 hne
  refine ⟨g, o, hA, hg, fun j u hu => ?_⟩
  have h3 := hc j u hu
  have hlt := World.block_lt_of_cell? _ _ h3
  unfold World.cell? at h3 ⊢
  rw [hb.block g hlt]
  exact h3
set_option maxRecDepth 1000000 in
set_option maxHeartbeats 4000000 in
theorem readHeading_any (s : ByteArray) (m : Int) (w : World) (hs : s.size ≤ 90000) (hm : w.cell? ⟨2, 0, none⟩ = some (.int .i64 m)) : Calls Tryz.prog 105 #[.string s] w fun e w' => e = .returned (.tuple #[.string ((spl (lfB s) 32).getD 1 ⟨#[]⟩), .int .i64 (((numB ((spl (lfB s) 32).getD 2 ⟨#[]⟩)).getD 0 : Nat) : Int), .bool (lfN s && (((spl (lfB s) 32).headD ⟨#[]⟩).toList == [103, 97, 117, 103, 101]) && !(((spl (lfB s) 32).getD 1 ⟨#[]⟩).toList == []) && (numB ((spl (lfB s) 32).getD 2 ⟨#[]⟩)).isSome && decide ((spl (lfB s) 32).tail.tail.tail.length = 0))]) ∧ Below w.heap.size w w' := by
  have HR := hd (read_w s m w (by omega) hm)
  have hb : (lfB s).size ≤ s.size := by unfold lfB; split; simp; omega
  have hx := getD_le (lfB s) 32 2
  have hn : (spl (lfB s) 32).length ≤ 100000 := by rw [show (32 : Nat) = (32 : UInt8).toNat from rfl, spl_len]; have := Lib.countB_le ⟨#[32]⟩ (by show 1 ≤ 1; omega) (lfB s).size (lfB s) (Nat.le_refl _); omega
  have HU := hd (fun W => unsigned_any ((spl (lfB s) 32).getD 2 ⟨#[]⟩) W (by omega))
  rw [← tail_hd, ← tail2_hd] at *
  clear hb hx hm hs
  generalize hl : spl (lfB s) 32 = l at *
  have h1 : l.tail.length ≤ 100000 := by simp; omega
  have h2 : l.tail.tail.length ≤ 100000 := by simp; omega
  have HN1 := hd (fun p W h => next_w p l W hn h)
  have HN2 := hd (fun p W h => next_w p l.tail W h1 h)
  have HN3 := hd (fun p W h => next_w p l.tail.tail W h2 h)
  have HD := hd (fun p W h => done_any p l.tail.tail.tail W h)
  clear h1 h2 hn hl
  generalize l.tail.tail.tail = l3 at *
  generalize l.tail.tail.headD ⟨#[]⟩ = x2 at *
  generalize l.tail.tail = l2 at *
  generalize l.tail.headD ⟨#[]⟩ = x1 at *
  generalize l.tail = l1 at *
  generalize l.headD ⟨#[]⟩ = x0 at *
  generalize lfN s = ng at *
  generalize (numB x2).isSome = q3 at *
  generalize (numB x2).getD 0 = nn at *
  generalize decide (l3.length = 0) = q4 at *
  cases ng
  · go_enter Tryz.func105, Tryz.ntmps105
    go_wp2_with fail
    refine HR.out.mono ?_
    rintro e w1 ⟨rfl, hw1, hs1, hb1⟩
    go_wp2_with fail
    refine (HN1.out _ _ hw1).mono ?_
    rintro e w2 ⟨rfl, hw2, hs2, hb2⟩
    go_wp2_with fail
    refine (HN2.out _ _ hw2).mono ?_
    rintro e w3 ⟨rfl, hw3, hs3, hb3⟩
    go_wp2_with fail
    refine (HN3.out _ _ hw3).mono ?_
    rintro e w4 ⟨rfl, hw4, hs4, hb4⟩
    go_wp2_with fail
    refine (HU.out _).mono ?_
    rintro e w5 ⟨rfl, hb5⟩
    go_wp2_with fail
    go_returns
    exact ⟨by simp [*], (((hb1.trans (hb2.mono (by omega))).trans (hb3.mono (by omega))).trans (hb4.mono (by omega))).trans (hb5.mono (by omega))⟩
  · cases hq0 : (x0.toList == [103, 97, 117, 103, 101])
    · go_enter Tryz.func105, Tryz.ntmps105
      go_wp2_with fail
      refine HR.out.mono ?_
      rintro e w1 ⟨rfl, hw1, hs1, hb1⟩
      go_wp2_with fail
      refine (HN1.out _ _ hw1).mono ?_
      rintro e w2 ⟨rfl, hw2, hs2, hb2⟩
      go_wp2_with fail
      refine (HN2.out _ _ hw2).mono ?_
      rintro e w3 ⟨rfl, hw3, hs3, hb3⟩
      go_wp2_with fail
      refine (HN3.out _ _ hw3).mono ?_
      rintro e w4 ⟨rfl, hw4, hs4, hb4⟩
      go_wp2_with fail
      refine (HU.out _).mono ?_
      rintro e w5 ⟨rfl, hb5⟩
      go_wp2_with fail
      go_returns
      exact ⟨by simp [*], (((hb1.trans (hb2.mono (by omega))).trans (hb3.mono (by omega))).trans (hb4.mono (by omega))).trans (hb5.mono (by omega))⟩
    · cases hq1 : (x1.toList == [])
      · cases q3
        · go_enter Tryz.func105, Tryz.ntmps105
          go_wp2_with fail
          refine HR.out.mono ?_
          rintro e w1 ⟨rfl, hw1, hs1, hb1⟩
          go_wp2_with fail
          refine (HN1.out _ _ hw1).mono ?_
          rintro e w2 ⟨rfl, hw2, hs2, hb2⟩
          go_wp2_with fail
          refine (HN2.out _ _ hw2).mono ?_
          rintro e w3 ⟨rfl, hw3, hs3, hb3⟩
          go_wp2_with fail
          refine (HN3.out _ _ hw3).mono ?_
          rintro e w4 ⟨rfl, hw4, hs4, hb4⟩
          go_wp2_with fail
          refine (HU.out _).mono ?_
          rintro e w5 ⟨rfl, hb5⟩
          go_wp2_with fail
          go_returns
          exact ⟨by simp [*], (((hb1.trans (hb2.mono (by omega))).trans (hb3.mono (by omega))).trans (hb4.mono (by omega))).trans (hb5.mono (by omega))⟩
        · go_enter Tryz.func105, Tryz.ntmps105
          go_wp2_with fail
          refine HR.out.mono ?_
          rintro e w1 ⟨rfl, hw1, hs1, hb1⟩
          go_wp2_with fail
          refine (HN1.out _ _ hw1).mono ?_
          rintro e w2 ⟨rfl, hw2, hs2, hb2⟩
          go_wp2_with fail
          refine (HN2.out _ _ hw2).mono ?_
          rintro e w3 ⟨rfl, hw3, hs3, hb3⟩
          go_wp2_with fail
          refine (HN3.out _ _ hw3).mono ?_
          rintro e w4 ⟨rfl, hw4, hs4, hb4⟩
          go_wp2_with fail
          refine (HU.out _).mono ?_
          rintro e w5 ⟨rfl, hb5⟩
          go_wp2_with fail
          refine (HD.out _ _ (wds_below hw4 hb5 (by omega))).mono ?_
          rintro e w6 ⟨rfl, rfl⟩
          go_wp2_with fail
          go_returns
          exact ⟨by simp [*], (((hb1.trans (hb2.mono (by omega))).trans (hb3.mono (by omega))).trans (hb4.mono (by omega))).trans (hb5.mono (by omega))⟩
      · go_enter Tryz.func105, Tryz.ntmps105
        go_wp2_with fail
        refine HR.out.mono ?_
        rintro e w1 ⟨rfl, hw1, hs1, hb1⟩
        go_wp2_with fail
        refine (HN1.out _ _ hw1).mono ?_
        rintro e w2 ⟨rfl, hw2, hs2, hb2⟩
        go_wp2_with fail
        refine (HN2.out _ _ hw2).mono ?_
        rintro e w3 ⟨rfl, hw3, hs3, hb3⟩
        go_wp2_with fail
        refine (HN3.out _ _ hw3).mono ?_
        rintro e w4 ⟨rfl, hw4, hs4, hb4⟩
        go_wp2_with fail
        refine (HU.out _).mono ?_
        rintro e w5 ⟨rfl, hb5⟩
        go_wp2_with fail
        go_returns
        exact ⟨by simp [*], (((hb1.trans (hb2.mono (by omega))).trans (hb3.mono (by omega))).trans (hb4.mono (by omega))).trans (hb5.mono (by omega))⟩
end Go.Proofs.YtnncmaegmlaabaaGreatDoor

namespace Go.Proofs.YtnncmaegmlaabaaGreatDoor
open Go.RowKit
open Ieee (Format Datum)

/-- The nearest word is no NaN. -/
theorem nearest_rung (f : Format) (neg : Bool) (mag : Nat) (place : Int) : ∃ r, r ≤ f.infRung ∧ f.nearest neg mag place = f.word neg r := by
  unfold Format.nearest
  split
  · exact ⟨0, Nat.zero_le _, by simp [Format.word]⟩
  · exact ⟨_, Nat.min_le_right _ _, rfl⟩
theorem nearest_read (f : Format) (neg : Bool) (mag : Nat) (place : Int) (s : Bool) (t : Nat) : f.read (f.nearest neg mag place) ≠ .nan s t := by
  obtain ⟨r, hr, he⟩ := nearest_rung f neg mag place
  have hsw := sw_eq f
  have hb : 0 < f.binade := Nat.two_pow_pos _
  have hlt : f.infRung < f.signWeight := by omega
  have hm : f.word neg r % f.signWeight = r := by
    unfold Format.word
    split
    · rw [Nat.add_mod_left, Nat.mod_eq_of_lt (by omega)]
    · exact Nat.mod_eq_of_lt (by omega)
  rw [he]
  unfold Format.read
  simp only
  rw [hm]
  intro h
  split at h
  · cases h
  · split at h
    · cases h
    · rw [if_pos (by omega)] at h; cases h
theorem quo_told (n : Int) : floatBits .quo .f32 (floatOfInt .f32 n) 1098907648 = some (lvQ n) := by
  have h : (floatBits .quo .f32 (floatOfInt .f32 n) 1098907648).isSome = true := by
    unfold floatBits floatOfInt
    have hy : ∃ m e, FloatKind.f32.format.read 1098907648 = .number false (m + 1) e := ⟨_, _, rfl⟩
    obtain ⟨m, e, hy⟩ := hy
    show (FloatKind.f32.format.div _ _).isSome = true
    unfold Format.div
    rw [hy]
    have hn := nearest_read FloatKind.f32.format (decide (n < 0)) n.natAbs 0
    have he : FloatKind.f32.nearest n = FloatKind.f32.format.nearest (decide (n < 0)) n.natAbs 0 := rfl
    rw [he]
    cases hx : FloatKind.f32.format.read (FloatKind.f32.format.nearest (decide (n < 0)) n.natAbs 0) with
    | nan s t => exact absurd hx (hn s t)
    | infinity s => rfl
    | number s a b =>
      simp [Datum.quotient]
  unfold lvQ
  cases hq : floatBits .quo .f32 (floatOfInt .f32 n) 1098907648 with
  | none => rw [hq] at h; cases h
  | some v => rfl
end Go.Proofs.YtnncmaegmlaabaaGreatDoor

namespace Go.Proofs.YtnncmaegmlaabaaGreatDoor
open Go.RowKit
open Ieee (Format Datum Toward)

theorem cut_even_bounds (neg : Bool) (n d : Nat) (h : d ≤ n.log2 + 2) : n / 2 ^ d ≤ Toward.even.cut neg n d ∧ Toward.even.cut neg n d ≤ n / 2 ^ d + 1 := by
  unfold Toward.cut
  simp only
  rw [Nat.min_eq_left h, Nat.shiftLeft_eq, Nat.one_mul]
  generalize (decide (2 ^ d < 2 * (n % 2 ^ d)) || 2 ^ d == 2 * (n % 2 ^ d) && n / 2 ^ d % 2 == 1) = b
  cases b <;> simp
theorem sgl_lpN : Ieee.single.leastPlace = -149 := by decide
/-- The nearest float32 of a number in the middle of the range. -/
theorem near_mid (neg : Bool) (mag : Nat) (place : Int) (E : Nat) (h0 : 0 < mag) (hE : place + mag.log2 = (E : Int)) (h100 : E ≤ 100) : ∃ r, Ieee.single.nearest neg mag place = Ieee.single.word neg r ∧ (E + 127) * 8388608 ≤ r ∧ r ≤ (E + 128) * 8388608 := by
  have l1 : 2 ^ mag.log2 ≤ mag := Nat.log2_self_le (by omega)
  have l2 : mag < 2 ^ (mag.log2 + 1) := Nat.lt_log2_self
  have e23 : Ieee.single.fractionBits = 23 := rfl
  have eb : Ieee.single.binade = 8388608 := by decide
  have ei : Ieee.single.infRung = 2139095040 := by decide
  unfold Format.nearest
  rw [if_neg (by omega)]
  simp only
  rw [sgl_lpN, e23, eb, ei]
  have hlast : max (place + (mag.log2 : Int) - (23 : Nat)) (-149) = (E : Int) - 23 := by omega
  rw [hlast]
  have hk : 8388608 ≤ Toward.even.cut neg (mag <<< (place - ((E : Int) - 23)).toNat) ((E : Int) - 23 - place).toNat ∧ Toward.even.cut neg (mag <<< (place - ((E : Int) - 23)).toNat) ((E : Int) - 23 - place).toNat ≤ 16777216 := by
    rcases Nat.le_total mag.log2 23 with h | h
    · have e1 : (place - ((E : Int) - 23)).toNat = 23 - mag.log2 := by omega
      have e2 : ((E : Int) - 23 - place).toNat = 0 := by omega
      rw [e1, e2]
      have hb := cut_even_bounds neg (mag <<< (23 - mag.log2)) 0 (by omega)
      rw [Nat.shiftLeft_eq] at hb ⊢
      rw [Nat.pow_zero, Nat.div_one] at hb
      have p : (8388608 : Nat) = 2 ^ mag.log2 * 2 ^ (23 - mag.log2) := by rw [← Nat.pow_add, show mag.log2 + (23 - mag.log2) = 23 by omega]
      have p2 : (16777216 : Nat) = 2 ^ (mag.log2 + 1) * 2 ^ (23 - mag.log2) := by rw [← Nat.pow_add, show mag.log2 + 1 + (23 - mag.log2) = 24 by omega]
      have h1 := Nat.mul_le_mul_right (2 ^ (23 - mag.log2)) l1
      have h2 := Nat.mul_lt_mul_of_pos_right l2 (Nat.two_pow_pos (23 - mag.log2))
      omega
    · have e1 : (place - ((E : Int) - 23)).toNat = 0 := by omega
      have e2 : ((E : Int) - 23 - place).toNat = mag.log2 - 23 := by omega
      rw [e1, e2, Nat.shiftLeft_eq, Nat.pow_zero, Nat.mul_one]
      have hb := cut_even_bounds neg mag (mag.log2 - 23) (by omega)
      have hd := Nat.two_pow_pos (mag.log2 - 23)
      have h1 : 8388608 ≤ mag / 2 ^ (mag.log2 - 23) := by
        rw [Nat.le_div_iff_mul_le hd]
        refine Nat.le_trans ?_ l1
        rw [show (8388608 : Nat) = 2 ^ 23 by decide, ← Nat.pow_add, show 23 + (mag.log2 - 23) = mag.log2 by omega]
        exact Nat.le_refl _
      have h2 : mag / 2 ^ (mag.log2 - 23) < 16777216 := by
        rw [Nat.div_lt_iff_lt_mul hd]
        refine Nat.lt_of_lt_of_le l2 ?_
        rw [show (16777216 : Nat) = 2 ^ 24 by decide, ← Nat.pow_add, show 24 + (mag.log2 - 23) = mag.log2 + 1 by omega]
        exact Nat.le_refl _
      omega
  obtain ⟨k1, k2⟩ := hk
  generalize Toward.even.cut neg (mag <<< (place - ((E : Int) - 23)).toNat) ((E : Int) - 23 - place).toNat = K at *
  have e3 : ((E : Int) - 23 - -149).toNat = E + 126 := by omega
  rw [e3]
  refine ⟨_, rfl, ?_, ?_⟩
  · rw [Nat.min_eq_left (by omega)]; omega
  · rw [Nat.min_eq_left (by omega)]; omega
/-- What such a float32 is. -/
theorem read_mid (neg : Bool) (r E : Nat) (h1 : (E + 127) * 8388608 ≤ r) (h2 : r ≤ (E + 128) * 8388608) (h3 : E ≤ 100) : ∃ m e, Ieee.single.read (Ieee.single.word neg r) = .number neg m e ∧ 8388608 ≤ m ∧ m < 16777216 ∧ (e = (E : Int) - 23 ∨ e = (E : Int) - 22) := by
  have eb : Ieee.single.binade = 8388608 := by decide
  have ei : Ieee.single.infRung = 2139095040 := by decide
  have es : Ieee.single.signWeight = 2147483648 := by decide
  have hm : Ieee.single.word neg r % 2147483648 = r := by unfold Format.word; rw [es]; split <;> omega
  have hd : (Ieee.single.word neg r / 2147483648 % 2 == 1) = neg := by
    unfold Format.word; rw [es]
    cases neg
    · rw [beq_eq_false_iff_ne]; simp only [Bool.false_eq_true, if_false]; omega
    · rw [beq_iff_eq]; simp only [if_true]; omega
  unfold Format.read
  simp only
  rw [es, eb, ei, sgl_lpN, hm, hd, if_neg (by omega), if_pos (by omega)]
  exact ⟨_, _, rfl, by omega, by omega, by omega⟩
/-- A sixteenth of a large integer, as a float32. -/
theorem quo_mid (neg : Bool) (mag : Nat) (h1 : 2048 ≤ mag) (h2 : mag < 1073741824) : ∃ q, Ieee.single.div (Ieee.single.nearest neg mag 0) 1098907648 = some q ∧ ∃ s m e, Ieee.single.read q = .number s m e ∧ 8388608 ≤ m ∧ m < 16777216 ∧ -16 ≤ e ∧ e ≤ 10 := by
  have l1 : 11 ≤ mag.log2 := (Nat.le_log2 (by omega)).2 h1
  have l2 : mag.log2 < 30 := (Nat.log2_lt (by omega)).2 h2
  obtain ⟨r, hr, hr1, hr2⟩ := near_mid neg mag 0 mag.log2 (by omega) (by omega) (by omega)
  obtain ⟨m, e, hre, hm1, hm2, he⟩ := read_mid neg r mag.log2 hr1 hr2 (by omega)
  rw [hr]
  have hy : Ieee.single.read 1098907648 = .number false 8388608 (-19) := by decide
  have lm : m.log2 = 23 := by
    have a1 : 23 ≤ m.log2 := (Nat.le_log2 (by omega)).2 hm1
    have a2 : m.log2 < 24 := (Nat.log2_lt (by omega)).2 hm2
    omega
  have l16 : Nat.log2 8388608 = 23 := by decide
  have e23 : Ieee.single.fractionBits = 23 := rfl
  have hq : Ieee.single.div (Ieee.single.word neg r) 1098907648 = some (Ieee.single.nearest neg (8 * m) (e - 7)) := by
    unfold Format.div
    rw [hre, hy]
    unfold Datum.quotient
    simp only
    rw [if_neg (by omega), l16, lm, e23]
    have hd : m <<< (23 + 2 + 23 - 23) / 8388608 = 4 * m := by rw [Nat.shiftLeft_eq]; omega
    have hr0 : m <<< (23 + 2 + 23 - 23) % 8388608 = 0 := by rw [Nat.shiftLeft_eq]; omega
    rw [hd, hr0]
    show some (Ieee.single.nearest (neg ^^ false) (2 * (4 * m) + 0) (e - -19 - (23 + 2 + 23 - 23 : Nat) - 1)) = _
    rw [show e - -19 - ((23 + 2 + 23 - 23 : Nat) : Int) - 1 = e - 7 by omega, show 2 * (4 * m) + 0 = 8 * m by omega, Bool.xor_false]
  have l8 : (8 * m).log2 = 26 := by
    have a1 : 26 ≤ (8 * m).log2 := (Nat.le_log2 (by omega)).2 (by omega)
    have a2 : (8 * m).log2 < 27 := (Nat.log2_lt (by omega)).2 (by omega)
    omega
  obtain ⟨r', hr', hr1', hr2'⟩ := near_mid neg (8 * m) (e - 7) (e + 19).toNat (by omega) (by omega) (by omega)
  obtain ⟨m', e', hre', hm1', hm2', he'⟩ := read_mid neg r' (e + 19).toNat hr1' hr2' (by omega)
  exact ⟨_, hq, neg, m', e', by rw [hr']; exact hre', hm1', hm2', by omega, by omega⟩

theorem lev_small : (List.range 4096).all (fun k => decide (chkLev (lvQ ((k : Int) - 2048)) = if k < 1024 ∨ 3072 < k then 3 else 0)) = true := by decide +kernel
theorem lvQ_zero : lvQ 0 = 0 := by decide +kernel
/-- What CheckLevel says of sixteenths. -/
theorem lev_lvQ (n : Int) (h1 : -999999999 ≤ n) (h2 : n ≤ 999999999) : chkLev (lvQ n) = if n < -1024 ∨ 1024 < n then 3 else 0 := by
  by_cases hs : n.natAbs < 2048
  · have h := List.all_eq_true.1 lev_small (n + 2048).toNat (by simp; omega)
    have e : (((n + 2048).toNat : Nat) : Int) - 2048 = n := by omega
    rw [e] at h
    rw [of_decide_eq_true h]
    by_cases hc : n < -1024 ∨ 1024 < n
    · rw [if_pos hc, if_pos (by omega)]
    · rw [if_neg hc, if_neg (by omega)]
  · obtain ⟨q, hq, s, m, e, hr, hm1, hm2, he1, he2⟩ := quo_mid (decide (n < 0)) n.natAbs (by omega) (by omega)
    have hv : lvQ n = q := by
      have h : floatBits .quo .f32 (floatOfInt .f32 n) 1098907648 = some q := hq
      unfold lvQ
      rw [h]; rfl
    have hd : FloatKind.f32.decode (lvQ n) = .number s m e := by rw [hv]; exact hr
    rw [if_pos (by omega)]
    unfold chkLev
    rw [hd]
    show (if _ then (0 : Int) else 3) = 3
    rw [if_neg]
    rintro ⟨-, hbig⟩
    unfold magOf oneU at hbig
    rw [dbl_lp] at hbig
    obtain ⟨c, hc⟩ : ∃ c : Nat, c + 16 = 1074 := ⟨1058, rfl⟩
    have e1 : (- -1074 : Int).toNat = c + 16 := by omega
    have e2 : (e - -1074).toNat = c + (e + 16).toNat := by omega
    rw [e1, e2, Nat.pow_add 2 c (e + 16).toNat, Nat.pow_add 2 c 16] at hbig
    have p1 : 1 ≤ 2 ^ (e + 16).toNat := Nat.two_pow_pos _
    have hQ : 0 < 2 ^ c := Nat.two_pow_pos c
    generalize 2 ^ c = Q at hbig hQ
    generalize 2 ^ (e + 16).toNat = K at hbig p1
    have p2 : 8388608 * Q ≤ m * Q := Nat.mul_le_mul_right _ hm1
    have p3 : m * Q ≤ m * (Q * K) := Nat.mul_le_mul_left m (Nat.le_mul_of_pos_right Q p1)
    have p4 : 64 * (Q * 2 ^ 16) = 4194304 * Q := by rw [Nat.mul_comm Q, ← Nat.mul_assoc]
    omega
end Go.Proofs.YtnncmaegmlaabaaGreatDoor
