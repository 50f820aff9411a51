/-
  Contract of gauge.Decode, where the parts of the stream are there. Condition: the bytes are there, at most 500.
  gauge.Encode refused; levels and bytes that come in, opened. Conditions: written at each.
  Plain words of GaugeStreams: the cells of a stream are those of a string. No program.
  Bytes that come in, opened; slices of bytes and the strings that they turn into. Conditions: written at each.
-/
import Derived.Test.YtkgkpcmokmhakaaGreatDoorProg
import Derived.Test.YtkgkpcmokmhakaaGreatDoorSI
import Derived.Deep.Cut
import Derived.Deep.RegionLaw
import Derived.IntWalk
import Derived.Deep.DeepCutAuto
import Derived.Test.YtkgkpcmokmhakaaGreatDoorT7
import Derived.Test.YtkgkpcmokmhakaaGreatDoorOpm
import Derived.Test.YtkgkpcmokmhakaaGreatDoorS2
import Derived.Test.YtkgkpcmokmhakaaGreatDoorMQ
import Derived.ChangeSlices
import Derived.Lib.BufferRead

namespace Go.Proofs.YtkgkpcmokmhakaaGreatDoor
open Go.RowKit
attribute [local go_sem] Oper.semAt_some

/-- What decodeBody hands back, in one form. -/
theorem body_any2 (nm : ByteArray) (st : Int) (s : ByteArray) (p q g m : Nat) (A1 A2 : Option Addr) (c1 c2 : Nat) (w : World) (hg : Rd w w.heap.size (.slice A1 (8 * g) c1) (8 * g) (bys s p (8 * g))) (hl : Rd w w.heap.size (.slice A2 (4 * m) c2) (4 * m) (bys s q (4 * m))) (hgm : g ≤ 1000 ∧ m ≤ 1000) (hs : nm.size ≤ maxLen) :
    Calls Tryz.prog 46 #[.agg #[.string nm, .int .i64 st, .slice none 0 0, .slice none 0 0], .slice A1 (8 * g) c1, .slice A2 (4 * m) c2] w fun e w' => ∃ nm' st' LA lm lc GA gm gc, e = .returned (.tuple #[.agg #[.string nm', .int .i64 st', .slice LA lm lc, .slice GA gm gc], .int .i64 (bodE nm st s p q g m)]) ∧ Below w.heap.size w w' ∧
      Hid ((bodE nm st s p q g m = 0 ∧ nm' = nm ∧ st' = st ∧ w'.ownsRow w.heap.size 60 1 (.slice LA lm lc) m (flc (dB s q m)) ∧ w'.ownsRow w.heap.size 50 2 (.slice GA gm gc) g (spc (dG s p g))) ∨
       (bodE nm st s p q g m ≠ 0 ∧ nm' = ⟨#[]⟩ ∧ st' = 0 ∧ Value.slice LA lm lc = .slice none 0 0 ∧ Value.slice GA gm gc = .slice none 0 0)) := by
  refine (body_any nm st s p q g m A1 A2 c1 c2 w hg hl hgm hs _ rfl).mono ?_
  rintro e w' ⟨hb, ⟨h0, LV, GV, rfl, h1, h2⟩ | ⟨h0, rfl⟩⟩
  · obtain ⟨LA, lc, hlv, -⟩ := own_form h1
    obtain ⟨GA, gc, hgv, -⟩ := own_form h2
    subst hlv hgv
    exact ⟨nm, st, _, _, _, _, _, _, by rw [h0], hb, .inl ⟨h0, rfl, rfl, h1, h2⟩⟩
  · exact ⟨_, _, none, 0, 0, none, 0, 0, rfl, hb, .inr ⟨h0, rfl, rfl, rfl, rfl⟩⟩

set_option maxRecDepth 1000000 in
set_option maxHeartbeats 8000000 in
theorem decode_rest (s : ByteArray) (A : Option Addr) (c : Nat) (w : World) (h : Rd w w.heap.size (.slice A s.size c) s.size (Lib.strCells s)) (hs : s.size ≤ 500) (h5 : ¬ s.size < 5) (hm : ((s.extract 0 4).toList == [84, 73, 68, 69]) = true) (h17 : ¬ s.size < 17 + bAt s 4) :
    Calls Tryz.prog 17 #[.slice A s.size c] w (DecdF s w) := by
  have hc1 : ¬ (4000000 : Int) < (s.size : Int) := by omega
  have hc2 : ¬ (s.size : Int) < 5 := by omega
  obtain ⟨A', c', e', hcc, hcm, hx⟩ := h
  cases e'
  obtain ⟨b, off, rfl, hbb, hcell⟩ := hx (by omega)
  unfold maxLen at hcm
  have HCA := hd (show ∀ i, i < s.size → w.cell? ⟨b, off + i, none⟩ = some (.int .u8 (bAt s i : Int)) from fun i hi => (hcell i (by rw [Lib.strCells_length]; exact hi)).trans (strCells_at s i hi))
  clear hcell hx
  obtain ⟨W0, hW0⟩ : ∃ W0, W0 = w.alloc (.cells #[.string ⟨#[]⟩, .int .i64 0, .slice none 0 0, .slice none 0 0] 35) := ⟨_, rfl⟩
  have HR := hd (show W0.heap[w.heap.size]? = some (.cells #[.string ⟨#[]⟩, .int .i64 0, .slice none 0 0, .slice none 0 0] 35 (0, 0)) by rw [hW0]; exact blk_new _ _ _)
  have HB := hd (show Below w.heap.size w W0 by rw [hW0]; exact (Below.refl _ w).alloc (Nat.le_refl _) _)
  have HBY := hd (show Lib.Bytes W0 b off s from bytes_of s W0 b off (fun i hi => (HB.out.cell (p := ⟨b, off + i, none⟩) hbb).trans (HCA.out i hi)))
  have hcv := Lib.run_convert_window (P := Tryz.prog) W0 55 5 9 Tryz.underlying55 Tryz.underlying5 Tryz.underlying9 b off s HBY.out 0 4 c (by omega)
  rw [Nat.add_zero, Nat.zero_add, hW0] at hcv
  have hl4 : (w.alloc (Obj.cells #[.string ⟨#[]⟩, .int .i64 0, .slice none 0 0, .slice none 0 0] 35)).cell? ⟨b, off + 4, none⟩ = some (.int .u8 (bAt s 4 : Int)) := by rw [← hW0]; exact (HB.out.cell (p := ⟨b, off + 4, none⟩) hbb).trans (HCA.out 4 (by omega))
  have hbn := bAt_lt s 4
  obtain ⟨n, hn⟩ : ∃ n, n = bAt s 4 := ⟨_, rfl⟩
  rw [← hn] at hl4 hbn h17
  have HN := hd hn
  have hc3 : ¬ c = 5 := by omega
  have hrn : ¬ ((s.size - 5 : Nat) : Int) < (n : Int) + 12 := by omega
  have hc4 : 4 ≤ c := by omega
  have hc5 : 5 ≤ c := by omega
  have hc6 : 5 ≤ s.size := by omega
  have hc7 : 4 < s.size := by omega
  have hc8 : n ≤ s.size - 5 := by omega
  have hc9 : n ≤ c - 5 := by omega
  have hca : ¬ c - 5 = n := by omega
  have HLE := hd (show n + 17 ≤ s.size ∧ s.size ≤ 500 ∧ s.size ≤ c from ⟨by omega, hs, hcc⟩)
  have HSZ := hd h5
  clear hs h5 h17 hn
  have HCV := hd (fun (X : World) (hX : Below W0.heap.size W0 X) => show (convert 55 9 (.slice (some ⟨b, off + 5, none⟩) n (c - 5))).run Tryz.prog X = .ok (.string (s.extract 5 (5 + n))) X from
    Lib.run_convert_window (P := Tryz.prog) X 55 5 9 Tryz.underlying55 Tryz.underlying5 Tryz.underlying9 b off s (bytes_of s X b off (fun i hi => (hX.cell (p := ⟨b, off + i, none⟩) (Nat.lt_of_lt_of_le hbb HB.out.size)).trans ((HB.out.cell (p := ⟨b, off + i, none⟩) hbb).trans (HCA.out i hi)))) 5 n (c - 5) (by have := HLE.out; omega))
  have HWA := hd (fun (i p o m cc : Nat) (X : World) (hX : Below W0.heap.size W0 X) (ho : o + 4 * i = off + p) (hp : p + 4 ≤ s.size) (hm : 4 * i + 4 ≤ m) (hmc : m ≤ cc) (hcm' : cc ≤ maxLen) => show Calls Tryz.prog 45 #[.slice (some ⟨b, o, none⟩) m cc, .int .i64 (i : Int)] X fun e w' => e = .returned (.int .u32 (w4 s p : Int)) ∧ Below X.heap.size X w' from by
    have hc : ∀ j, j < s.size → X.cell? ⟨b, off + j, none⟩ = some (.int .u8 (bAt s j : Int)) := fun j hj => (hX.cell (p := ⟨b, off + j, none⟩) (Nat.lt_of_lt_of_le hbb HB.out.size)).trans ((HB.out.cell (p := ⟨b, off + j, none⟩) hbb).trans (HCA.out j hj))
    refine (word_any s b o m cc i p X ?_ ?_ ?_ ?_ hm hmc hcm').mono ?_
    · rw [ho]; exact hc p (by omega)
    · rw [ho, Nat.add_assoc]; exact hc (p + 1) (by omega)
    · rw [ho, Nat.add_assoc]; exact hc (p + 2) (by omega)
    · rw [ho, Nat.add_assoc]; exact hc (p + 3) (by omega)
    · rintro e w' ⟨rfl, q', rfl⟩; exact ⟨rfl, below_dq (Below.refl _ _) q'⟩)
  go_enter Tryz.func17, Tryz.ntmps17
  go_wp2_with fail
  rw [← hW0]
  clear hW0
  have HRW := hd (fun (X : World) (hX : Below W0.heap.size W0 X) (A' : Option Addr) (len cc p : Nat) (h1 : len ≤ cc) (h2 : cc ≤ maxLen) (h3 : 0 < len → A' = some ⟨b, off + p, none⟩) (h4 : p + len ≤ s.size) => show Rd X X.heap.size (.slice A' len cc) len (bys s p len) from by
    refine ⟨A', cc, rfl, h1, h2, fun h0 => ⟨b, off + p, h3 h0, Nat.lt_of_lt_of_le hbb (Nat.le_trans HB.out.size hX.size), fun j hj => ?_⟩⟩
    rw [bys_len] at hj
    rw [bys_at s p len j hj, Nat.add_assoc]
    exact (hX.cell (p := ⟨b, off + (p + j), none⟩) (Nat.lt_of_lt_of_le hbb HB.out.size)).trans ((HB.out.cell (p := ⟨b, off + (p + j), none⟩) hbb).trans (HCA.out (p + j) (by omega))))
  have HNZ := hd (show (s.extract 5 (5 + n)).size ≤ maxLen by have h1 : (s.extract 5 (5 + n)).size = min (5 + n) s.size - 5 := by simp
                                                              rw [h1]; unfold maxLen; have := HLE.out; omega)
  have HW0 := hd (fun (X : World) (hX : Below W0.heap.size W0 X) => show Calls Tryz.prog 45 #[.slice (some ⟨b, off + 5 + n, none⟩) (s.size - 5 - n) (c - 5 - n), .int .i64 0] X fun e w' => e = .returned (.int .u32 (w4 s (5 + n) : Int)) ∧ Below X.heap.size X w' from
    HWA.out 0 (5 + n) (off + 5 + n) (s.size - 5 - n) (c - 5 - n) X hX (by omega) (by have := HLE.out; omega) (by have := HLE.out; omega) (by have := HLE.out; omega) (by have := HLE.out; unfold maxLen; omega))
  obtain ⟨f, hfe⟩ : ∃ f, f = w4 s (5 + n) := ⟨_, rfl⟩
  have hf32 : f < 4294967296 := by rw [hfe]; exact w4_lt _ _
  have wr3 : IntKind.i64.wrap (f : Int) = (f : Int) := IntWalk.i64_in _ (by omega)
  rw [← hfe] at HW0
  have HFE := hd hfe
  clear hfe hf32
  have hcvA := HCV.out _ (Below.refl _ W0).drew
  have hcvB := HCV.out _ (((Below.refl _ W0).alloc (Nat.le_refl _) (Obj.cells #[.string ⟨#[]⟩, .int .i64 0, .slice none 0 0, .slice none 0 0] 35)).drew)
  go_cut [6] from 44 (fun s6 wx => ∃ (O : Nat), s6 = .pointer (some ⟨O, 0, none⟩) ∧ Hid (W0.heap.size ≤ O ∧ wx.heap[O]? = some (.cells #[.string (s.extract 5 (5 + n)), .int .i64 (f : Int), .slice none 0 0, .slice none 0 0] 35 (0, 0)) ∧ Below W0.heap.size W0 wx))
  case first =>
    go_region_law (first
      | (go_simp; go_at_call 45; (first | refine (HW0.out W0.drew (Below.refl _ W0).drew).mono ?_ | refine (HW0.out (W0.alloc (Obj.cells #[.string ⟨#[]⟩, .int .i64 0, .slice none 0 0, .slice none 0 0] 35)).drew ((Below.refl _ W0).alloc (Nat.le_refl _) _).drew).mono ?_); rintro e x1 ⟨rfl, hb⟩; (first
          | (have hbx : x1.heap[W0.heap.size]? = some (.cells #[.string ⟨#[]⟩, .int .i64 0, .slice none 0 0, .slice none 0 0] 35 (0, 0)) := (hb.block W0.heap.size (by show W0.heap.size < (W0.heap.push _).size; simp)).trans (blk_new W0 _ _); have c0 := blk_cell hbx 0; have c1 := blk_cell hbx 1; have c2 := blk_cell hbx 2; have c3 := blk_cell hbx 3; have d0 := blk_frozen hbx 0; have d1 := blk_frozen hbx 1; have d2 := blk_frozen hbx 2; have d3 := blk_frozen hbx 3; simp at c0 c1 c2 c3; have HX1 := hd (((Below.refl W0.heap.size W0).alloc (Nat.le_refl _) (Obj.cells #[.string ⟨#[]⟩, .int .i64 0, .slice none 0 0, .slice none 0 0] 35)).drew.trans (hb.mono (by show W0.heap.size ≤ (W0.heap.push _).size; simp))); have HBX := hd hbx; clear hbx)
          | (have HX1 := hd ((Below.refl W0.heap.size W0).drew.trans hb))); have hcvC := HCV.out _ HX1.out; have hcvD := HCV.out _ (HX1.out.alloc HX1.out.size (Obj.cells #[.string ⟨#[]⟩, .int .i64 0, .slice none 0 0, .slice none 0 0] 35)); clear hb))
    all_goals
      clear hcvC hcvD
      first
        | (have hbx2 := HBX.out
           change Exit.then _ _ _ _ (set4S x1 W0.heap.size (.string (s.extract 5 (5 + n))) (.int .i64 (f : Int)) (.slice none 0 0) (.slice none 0 0))
           have HQ := hd (set4S_blk hbx2 (.string (s.extract 5 (5 + n))) (.int .i64 (f : Int)) (.slice none 0 0) (.slice none 0 0))
           have HQB := hd (set4S_below HX1.out (Nat.le_refl _) (.string (s.extract 5 (5 + n))) (.int .i64 (f : Int)) (.slice none 0 0) (.slice none 0 0))
           clear hbx2 c0 c1 c2 c3 d0 d1 d2 d3
           generalize set4S x1 W0.heap.size (.string (s.extract 5 (5 + n))) (.int .i64 (f : Int)) (.slice none 0 0) (.slice none 0 0) = WX at *
           go_wp2_with fail
           go_meet
           exact ⟨W0.heap.size, rfl, hd ⟨Nat.le_refl _, HQ.out, HQB.out⟩⟩)
        | (have HQ := hd (blk_new x1 #[.string (s.extract 5 (5 + n)), .int .i64 (f : Int), .slice none 0 0, .slice none 0 0] 35)
           have HQB := hd (HX1.out.alloc HX1.out.size (Obj.cells #[.string (s.extract 5 (5 + n)), .int .i64 (f : Int), .slice none 0 0, .slice none 0 0] 35))
           have HQL := hd HX1.out.size
           generalize x1.alloc (Obj.cells #[.string (s.extract 5 (5 + n)), .int .i64 (f : Int), .slice none 0 0, .slice none 0 0] 35) = WX at *
           generalize x1.heap.size = OX at *
           go_wp2_with fail
           go_meet
           exact ⟨OX, rfl, hd ⟨HQL.out, HQ.out, HQB.out⟩⟩)
  case rest =>
    obtain ⟨O, rfl, HK⟩ := hcut
    clear wr3 hcvA hcvB HW0
    obtain ⟨m, hme⟩ : ∃ m, m = w4 s (9 + n) := ⟨_, rfl⟩
    obtain ⟨g, hge⟩ : ∃ g, g = w4 s (13 + n) := ⟨_, rfl⟩
    have hm32 : m < 4294967296 := by rw [hme]; exact w4_lt _ _
    have hg32 : g < 4294967296 := by rw [hge]; exact w4_lt _ _
    have HW1 := hd (fun (X : World) (hX : Below W0.heap.size W0 X) => show Calls Tryz.prog 45 #[.slice (some ⟨b, off + 5 + n, none⟩) (s.size - 5 - n) (c - 5 - n), .int .i64 1] X fun e w' => e = .returned (.int .u32 (m : Int)) ∧ Below X.heap.size X w' from by
      rw [hme]; exact HWA.out 1 (9 + n) (off + 5 + n) (s.size - 5 - n) (c - 5 - n) X hX (by omega) (by have := HLE.out; omega) (by have := HLE.out; omega) (by have := HLE.out; omega) (by have := HLE.out; unfold maxLen; omega))
    have HW2 := hd (fun (X : World) (hX : Below W0.heap.size W0 X) => show Calls Tryz.prog 45 #[.slice (some ⟨b, off + 5 + n, none⟩) (s.size - 5 - n) (c - 5 - n), .int .i64 2] X fun e w' => e = .returned (.int .u32 (g : Int)) ∧ Below X.heap.size X w' from by
      rw [hge]; exact HWA.out 2 (13 + n) (off + 5 + n) (s.size - 5 - n) (c - 5 - n) X hX (by omega) (by have := HLE.out; omega) (by have := HLE.out; omega) (by have := HLE.out; omega) (by have := HLE.out; unfold maxLen; omega))
    have HME := hd hme
    have HGE := hd hge
    clear hme hge
    have hn12 : n + 12 ≤ s.size - 5 := by have := HLE.out; omega
    have hn13 : n + 12 ≤ c - 5 := by have := HLE.out; omega
    have hn14 : (n : Int) + 12 ≤ ((s.size - 5 : Nat) : Int) := by have := HLE.out; omega
    go_wp2_with fail
    refine (HW1.out _ HK.out.2.2).mono ?_
    rintro e w2 ⟨rfl, hb2⟩
    have HK2 := hd (HK.out.2.2.trans (hb2.mono HK.out.2.2.size))
    have HO2 := hd ((hb2.block _ (blk_lt HK.out.2.1)).trans HK.out.2.1)
    have HOL := hd HK.out.1
    clear hb2 HK HW1
    go_wp2_with fail
    refine (HW2.out _ HK2.out).mono ?_
    rintro e w3 ⟨rfl, hb3⟩
    have HK3 := hd (HK2.out.trans (hb3.mono HK2.out.size))
    have HO3 := hd ((hb3.block _ (blk_lt HO2.out)).trans HO2.out)
    clear hb3 HK2 HO2 HW2
    have HR2 := hd ((HK3.out.block _ (blk_lt HR.out)).trans HR.out)
    have HB2 := hd (HB.out.trans (HK3.out.mono HB.out.size))
    have r0 := blk_cell HR2.out 0
    have r1 := blk_cell HR2.out 1
    have r2 := blk_cell HR2.out 2
    have r3 := blk_cell HR2.out 3
    have y0 := blk_frozen HR2.out 0
    have y1 := blk_frozen HR2.out 1
    have y2 := blk_frozen HR2.out 2
    have y3 := blk_frozen HR2.out 3
    simp at r0 r1 r2 r3
    obtain ⟨M, hM⟩ : ∃ M, M = s.size - 5 - (n + 12) := ⟨_, rfl⟩
    have HM := hd hM
    by_cases hlt : M < 8 * g + 4 * m
    · have HE := hd (show decE s = 29 by unfold decE; rw [if_neg HSZ.out, if_pos hm, if_neg (by rw [← HN.out]; have := HLE.out; omega)]; unfold dNg dNl; rw [← HN.out, ← HGE.out, ← HME.out]; exact if_pos (by have := HM.out; have := HLE.out; omega))
      have hlt2 : ((s.size - 5 - (n + 12) : Nat) : Int) < 8 * (g : Int) + 4 * (m : Int) := by omega
      clear hM hlt
      go_wp2_with fail
      all_goals
        have hq := set4S_blk HR2.out (.string ⟨#[]⟩) (.int .i64 0) (.slice none 0 0) (.slice none 0 0)
        have z0 := blk_cell hq 0
        have z1 := blk_cell hq 1
        have z2 := blk_cell hq 2
        have z3 := blk_cell hq 3
        simp at z0 z1 z2 z3
        have HB5 := hd (set4S_below HB2.out (Nat.le_refl _) (.string ⟨#[]⟩) (.int .i64 0) (.slice none 0 0) (.slice none 0 0))
        change bodyPost _ _ _ _ _ (set4S w3 w.heap.size (.string ⟨#[]⟩) (.int .i64 0) (.slice none 0 0) (.slice none 0 0))
        generalize set4S w3 w.heap.size (.string ⟨#[]⟩) (.int .i64 0) (.slice none 0 0) (.slice none 0 0) = W6 at *
        clear hq r0 r1 r2 r3 y0 y1 y2 y3
        exact bodyPost_ret (v := .tuple #[.agg #[.string ⟨#[]⟩, .int .i64 0, .slice none 0 0, .slice none 0 0], .int .i64 29]) (by simp [results, Tryz.results17, go_sem, z0, z1, z2, z3]) rfl ⟨HB5.out, .inr ⟨by rw [HE.out]; decide, by rw [HE.out]⟩⟩
    · by_cases hgt : 8 * g + 4 * m < M
      · have HE := hd (show decE s = 2 by unfold decE; rw [if_neg HSZ.out, if_pos hm, if_neg (by rw [← HN.out]; have := HLE.out; omega)]; unfold dNg dNl; rw [← HN.out, ← HGE.out, ← HME.out]; rw [if_neg (by have := HM.out; have := HLE.out; omega)]; exact if_pos (by have := HM.out; have := HLE.out; omega))
        have hlt2 : ¬ ((s.size - 5 - (n + 12) : Nat) : Int) < 8 * (g : Int) + 4 * (m : Int) := by omega
        have hgt2 : 8 * (g : Int) + 4 * (m : Int) < ((s.size - 5 - (n + 12) : Nat) : Int) := by omega
        clear hM hlt hgt
        go_wp2_with fail
        all_goals
          have hq := set4S_blk HR2.out (.string ⟨#[]⟩) (.int .i64 0) (.slice none 0 0) (.slice none 0 0)
          have z0 := blk_cell hq 0
          have z1 := blk_cell hq 1
          have z2 := blk_cell hq 2
          have z3 := blk_cell hq 3
          simp at z0 z1 z2 z3
          have HB5 := hd (set4S_below HB2.out (Nat.le_refl _) (.string ⟨#[]⟩) (.int .i64 0) (.slice none 0 0) (.slice none 0 0))
          change bodyPost _ _ _ _ _ (set4S w3 w.heap.size (.string ⟨#[]⟩) (.int .i64 0) (.slice none 0 0) (.slice none 0 0))
          generalize set4S w3 w.heap.size (.string ⟨#[]⟩) (.int .i64 0) (.slice none 0 0) (.slice none 0 0) = W6 at *
          clear hq r0 r1 r2 r3 y0 y1 y2 y3
          exact bodyPost_ret (v := .tuple #[.agg #[.string ⟨#[]⟩, .int .i64 0, .slice none 0 0, .slice none 0 0], .int .i64 2]) (by simp [results, Tryz.results17, go_sem, z0, z1, z2, z3]) rfl ⟨HB5.out, .inr ⟨by rw [HE.out]; decide, by rw [HE.out]⟩⟩
      · have HE := hd (show decE s = bodE (dNm s) (dSt s) s (17 + n) (17 + n + 8 * g) g m by unfold decE; rw [if_neg HSZ.out, if_pos hm, if_neg (by rw [← HN.out]; have := HLE.out; omega)]; unfold dNg dNl; rw [← HN.out, ← HGE.out, ← HME.out]; rw [if_neg (by have := HM.out; have := HLE.out; omega)]; exact if_neg (by have := HM.out; have := HLE.out; omega))
        have HNM := hd (show dNm s = s.extract 5 (5 + n) by unfold dNm; rw [← HN.out])
        have HST := hd (show dSt s = (f : Int) by unfold dSt; rw [← HN.out, ← HFE.out])
        have HBS := hd (show dBs s = dB s (17 + n + 8 * g) m by unfold dBs dNg dNl; rw [← HN.out, ← HGE.out, ← HME.out])
        have HGS := hd (show dGs s = dG s (17 + n) g by unfold dGs dNg; rw [← HN.out, ← HGE.out])
        have hlt2 : ¬ ((s.size - 5 - (n + 12) : Nat) : Int) < 8 * (g : Int) + 4 * (m : Int) := by omega
        have hgt2 : ¬ 8 * (g : Int) + 4 * (m : Int) < ((s.size - 5 - (n + 12) : Nat) : Int) := by omega
        have hs1 : 8 * g ≤ s.size - 5 - (n + 12) := by omega
        have hs2 : 8 * g ≤ c - 5 - (n + 12) := by have := HLE.out; omega
        have hgb : g ≤ 1000 := by have := HLE.out; omega
        have hmb : m ≤ 1000 := by have := HLE.out; omega
        have HMG := hd (show s.size - 5 - (n + 12) - 8 * g = 4 * m ∧ s.size = n + 17 + 8 * g + 4 * m by have := HLE.out; omega)
        clear hM hlt hgt hm32 hg32
        go_wp2_with fail
        · have hg0 : g = 0 := by omega
          have hm0 : m = 0 := by have := HMG.out; omega
          subst hg0 hm0
          have hL : s.size - 5 - (n + 12) = 8 * 0 + 4 * 0 := by have := HMG.out; omega
          clear hs2
          have wrz : IntKind.i64.wrap 0 = 0 := IntWalk.i64_in _ (by omega)
          have q0 := blk_cell HO3.out 0
          have q1 := blk_cell HO3.out 1
          have q2 := blk_cell HO3.out 2
          have q3 := blk_cell HO3.out 3
          simp at q0 q1 q2 q3
          have HNE := hd (show w.heap.size ≠ O by have h1 := HOL.out; have h2 := blk_lt HR.out; omega)
          have hne := HNE.out
          have hne' := hne.symm
          rw [hL]
          clear r0 r1 r2 r3 y0 y1 y2 y3 hs1 hgt2 hlt2
          go_region_held3 (fun x => x.cell? ⟨O, 0, none⟩ = some (.string (s.extract 5 (5 + n))) ∧ x.cell? ⟨O, 1, none⟩ = some (.int .i64 (f : Int)) ∧ x.cell? ⟨O, 2, none⟩ = some (.slice none 0 0) ∧ x.cell? ⟨O, 3, none⟩ = some (.slice none 0 0)) (go_keep)
            (first
              | (go_at_call 46; refine (body_any2 (s.extract 5 (5 + n)) (f : Int) s (17 + n) (17 + n + 8 * 0) 0 0 _ _ _ _ w3.drew (HRW.out _ HK3.out.drew _ _ _ _ (by omega) (by have := HLE.out; unfold maxLen; omega) (fun h0 => by first | (exfalso; omega) | (congr 2; omega) | rfl) (by have := HMG.out; omega)) (HRW.out _ HK3.out.drew _ _ _ _ (by first | omega | (have := HMG.out; have := HLE.out; omega)) (by have := HLE.out; unfold maxLen; omega) (fun h0 => by first | (exfalso; omega) | (congr 2; omega) | rfl) (by have := HMG.out; omega)) (by omega) HNZ.out).mono ?_; rintro e w5 ⟨nm', st', LA, lm, lc, GA, gm, gc, rfl, hb5, hdd⟩; have HDD := hdd; have HB5 := hd (HB.out.trans ((HK3.out.drew.trans (hb5.mono HK3.out.size)).mono HB.out.size)); have HR5 := hd ((hb5.block _ (show w.heap.size < w3.heap.size from Nat.lt_of_lt_of_le (blk_lt HR.out) HK3.out.size)).trans ((HK3.out.block _ (blk_lt HR.out)).trans HR.out)); have hO5 := (hb5.block _ (show O < w3.heap.size from blk_lt HO3.out)).trans HO3.out; have p0 := blk_cell hO5 0; have p1 := blk_cell hO5 1; have p2 := blk_cell hO5 2; have p3 := blk_cell hO5 3; simp at p0 p1 p2 p3; have r0 := blk_cell HR5.out 0; have r1 := blk_cell HR5.out 1; have r2 := blk_cell HR5.out 2; have r3 := blk_cell HR5.out 3; simp at r0 r1 r2 r3; have y0 := blk_frozen HR5.out 0; have y1 := blk_frozen HR5.out 1; have y2 := blk_frozen HR5.out 2; have y3 := blk_frozen HR5.out 3; clear hdd hb5 hO5 q0 q1 q2 q3))
          all_goals
            have hq := set4S_blk HR5.out (.string nm') (.int .i64 st') (.slice LA lm lc) (.slice GA gm gc)
            have z0 := blk_cell hq 0
            have z1 := blk_cell hq 1
            have z2 := blk_cell hq 2
            have z3 := blk_cell hq 3
            simp at z0 z1 z2 z3
            have HB6 := hd (set4S_below HB5.out (Nat.le_refl _) (.string nm') (.int .i64 st') (.slice LA lm lc) (.slice GA gm gc))
            have HD6 := hd (show (bodE (s.extract 5 (5 + n)) (f : Int) s (17 + n) (17 + n + 8 * 0) 0 0 = 0 ∧ nm' = (s.extract 5 (5 + n)) ∧ st' = (f : Int) ∧ Rd (set4S w5 w.heap.size (.string nm') (.int .i64 st') (.slice LA lm lc) (.slice GA gm gc)) (set4S w5 w.heap.size (.string nm') (.int .i64 st') (.slice LA lm lc) (.slice GA gm gc)).heap.size (.slice LA lm lc) 0 (flc (dB s (17 + n + 8 * 0) 0)) ∧ Rd (set4S w5 w.heap.size (.string nm') (.int .i64 st') (.slice LA lm lc) (.slice GA gm gc)) (set4S w5 w.heap.size (.string nm') (.int .i64 st') (.slice LA lm lc) (.slice GA gm gc)).heap.size (.slice GA gm gc) 0 (spc (dG s (17 + n) 0)) ∧ Full (.slice LA lm lc)) ∨
                 (bodE (s.extract 5 (5 + n)) (f : Int) s (17 + n) (17 + n + 8 * 0) 0 0 ≠ 0 ∧ nm' = ⟨#[]⟩ ∧ st' = 0 ∧ Value.slice LA lm lc = .slice none 0 0 ∧ Value.slice GA gm gc = .slice none 0 0) from by
              rcases HDD.out with ⟨h0, h1, h2, h3, h4⟩ | h
              · exact .inl ⟨h0, h1, h2, rd_of_own (own_set4S h3 (own_boxS h3 HR5.out (by decide))), rd_of_own (own_set4S h4 (own_boxS h4 HR5.out (by decide))), full_own h3⟩
              · exact .inr h)
            change Exit.then _ _ _ _ (set4S w5 w.heap.size (.string nm') (.int .i64 st') (.slice LA lm lc) (.slice GA gm gc))
            generalize set4S w5 w.heap.size (.string nm') (.int .i64 st') (.slice LA lm lc) (.slice GA gm gc) = W6 at *
            clear hq HDD r0 r1 r2 r3 y0 y1 y2 y3 p0 p1 p2 p3 HB5 HR5
            go_wp2_with fail
            refine bodyPost_ret (v := .tuple #[.agg #[.string nm', .int .i64 st', .slice LA lm lc, .slice GA gm gc], .int .i64 (bodE (s.extract 5 (5 + n)) (f : Int) s (17 + n) (17 + n + 8 * 0) 0 0)]) (by simp [results, Tryz.results17, go_sem, z0, z1, z2, z3]) rfl ⟨HB6.out, ?_⟩
            rcases HD6.out with ⟨h0, h1, h2, h3, h4, h5⟩ | ⟨h0, h1, h2, h3, h4⟩
            · exact .inl ⟨by rw [HE.out, HNM.out, HST.out]; exact h0, .slice LA lm lc, .slice GA gm gc, by rw [h0, h1, h2, HNM.out, HST.out], by rw [HBS.out, dB_len]; exact h3, by rw [HGS.out, dG_len]; exact h4, h5⟩
            · exact .inr ⟨by rw [HE.out, HNM.out, HST.out]; exact h0, by rw [HE.out, HNM.out, HST.out, h1, h2, h3, h4]⟩
        · have hL : s.size - 5 - (n + 12) = 8 * g + 4 * m := by have := HMG.out; omega
          have hs4 : 8 * g ≤ 8 * g + 4 * m := by omega
          by_cases hq1 : c - 5 - (n + 12) = 8 * g
          · have hs5 : 8 * g ≤ 8 * g := Nat.le_refl _
            have q0 := blk_cell HO3.out 0
            have q1 := blk_cell HO3.out 1
            have q2 := blk_cell HO3.out 2
            have q3 := blk_cell HO3.out 3
            simp at q0 q1 q2 q3
            have HNE := hd (show w.heap.size ≠ O by have h1 := HOL.out; have h2 := blk_lt HR.out; omega)
            have hne := HNE.out
            have hne' := hne.symm
            rw [hL]
            clear r0 r1 r2 r3 y0 y1 y2 y3 hs1 hgt2 hlt2
            have wr1 : IntKind.i64.wrap (8 * (g : Int)) = 8 * (g : Int) := IntWalk.i64_in _ (by omega)
            have wr2 : (0 : Int) ≤ 8 * (g : Int) := by omega
            have wr3 : (8 * (g : Int)).toNat = 8 * g := by omega
            have wr4 : 8 * (g : Int) ≤ ((c - 5 - (n + 12) : Nat) : Int) := by omega
            have wr5 : 8 * (g : Int) ≤ 8 * (g : Int) + 4 * (m : Int) := by omega
            go_region_held3 (fun x => x.cell? ⟨O, 0, none⟩ = some (.string (s.extract 5 (5 + n))) ∧ x.cell? ⟨O, 1, none⟩ = some (.int .i64 (f : Int)) ∧ x.cell? ⟨O, 2, none⟩ = some (.slice none 0 0) ∧ x.cell? ⟨O, 3, none⟩ = some (.slice none 0 0)) (go_keep)
              (first
                | (go_at_call 46; refine (body_any2 (s.extract 5 (5 + n)) (f : Int) s (17 + n) (17 + n + 8 * g) g m _ _ _ _ w3.drew (HRW.out _ HK3.out.drew _ _ _ _ (by omega) (by have := HLE.out; unfold maxLen; omega) (fun h0 => by first | (exfalso; omega) | (congr 2; omega) | rfl) (by have := HMG.out; omega)) (HRW.out _ HK3.out.drew _ _ _ _ (by first | omega | (have := HMG.out; have := HLE.out; omega)) (by have := HLE.out; unfold maxLen; omega) (fun h0 => by first | (exfalso; omega) | (congr 2; omega) | rfl) (by have := HMG.out; omega)) (by omega) HNZ.out).mono ?_; rintro e w5 ⟨nm', st', LA, lm, lc, GA, gm, gc, rfl, hb5, hdd⟩; have HDD := hdd; have HB5 := hd (HB.out.trans ((HK3.out.drew.trans (hb5.mono HK3.out.size)).mono HB.out.size)); have HR5 := hd ((hb5.block _ (show w.heap.size < w3.heap.size from Nat.lt_of_lt_of_le (blk_lt HR.out) HK3.out.size)).trans ((HK3.out.block _ (blk_lt HR.out)).trans HR.out)); have hO5 := (hb5.block _ (show O < w3.heap.size from blk_lt HO3.out)).trans HO3.out; have p0 := blk_cell hO5 0; have p1 := blk_cell hO5 1; have p2 := blk_cell hO5 2; have p3 := blk_cell hO5 3; simp at p0 p1 p2 p3; have r0 := blk_cell HR5.out 0; have r1 := blk_cell HR5.out 1; have r2 := blk_cell HR5.out 2; have r3 := blk_cell HR5.out 3; simp at r0 r1 r2 r3; have y0 := blk_frozen HR5.out 0; have y1 := blk_frozen HR5.out 1; have y2 := blk_frozen HR5.out 2; have y3 := blk_frozen HR5.out 3; clear hdd hb5 hO5 q0 q1 q2 q3))
            all_goals
              have hq := set4S_blk HR5.out (.string nm') (.int .i64 st') (.slice LA lm lc) (.slice GA gm gc)
              have z0 := blk_cell hq 0
              have z1 := blk_cell hq 1
              have z2 := blk_cell hq 2
              have z3 := blk_cell hq 3
              simp at z0 z1 z2 z3
              have HB6 := hd (set4S_below HB5.out (Nat.le_refl _) (.string nm') (.int .i64 st') (.slice LA lm lc) (.slice GA gm gc))
              have HD6 := hd (show (bodE (s.extract 5 (5 + n)) (f : Int) s (17 + n) (17 + n + 8 * g) g m = 0 ∧ nm' = (s.extract 5 (5 + n)) ∧ st' = (f : Int) ∧ Rd (set4S w5 w.heap.size (.string nm') (.int .i64 st') (.slice LA lm lc) (.slice GA gm gc)) (set4S w5 w.heap.size (.string nm') (.int .i64 st') (.slice LA lm lc) (.slice GA gm gc)).heap.size (.slice LA lm lc) m (flc (dB s (17 + n + 8 * g) m)) ∧ Rd (set4S w5 w.heap.size (.string nm') (.int .i64 st') (.slice LA lm lc) (.slice GA gm gc)) (set4S w5 w.heap.size (.string nm') (.int .i64 st') (.slice LA lm lc) (.slice GA gm gc)).heap.size (.slice GA gm gc) g (spc (dG s (17 + n) g)) ∧ Full (.slice LA lm lc)) ∨
                   (bodE (s.extract 5 (5 + n)) (f : Int) s (17 + n) (17 + n + 8 * g) g m ≠ 0 ∧ nm' = ⟨#[]⟩ ∧ st' = 0 ∧ Value.slice LA lm lc = .slice none 0 0 ∧ Value.slice GA gm gc = .slice none 0 0) from by
                rcases HDD.out with ⟨h0, h1, h2, h3, h4⟩ | h
                · exact .inl ⟨h0, h1, h2, rd_of_own (own_set4S h3 (own_boxS h3 HR5.out (by decide))), rd_of_own (own_set4S h4 (own_boxS h4 HR5.out (by decide))), full_own h3⟩
                · exact .inr h)
              change Exit.then _ _ _ _ (set4S w5 w.heap.size (.string nm') (.int .i64 st') (.slice LA lm lc) (.slice GA gm gc))
              generalize set4S w5 w.heap.size (.string nm') (.int .i64 st') (.slice LA lm lc) (.slice GA gm gc) = W6 at *
              clear hq HDD r0 r1 r2 r3 y0 y1 y2 y3 p0 p1 p2 p3 HB5 HR5
              go_wp2_with fail
              refine bodyPost_ret (v := .tuple #[.agg #[.string nm', .int .i64 st', .slice LA lm lc, .slice GA gm gc], .int .i64 (bodE (s.extract 5 (5 + n)) (f : Int) s (17 + n) (17 + n + 8 * g) g m)]) (by simp [results, Tryz.results17, go_sem, z0, z1, z2, z3]) rfl ⟨HB6.out, ?_⟩
              rcases HD6.out with ⟨h0, h1, h2, h3, h4, h5⟩ | ⟨h0, h1, h2, h3, h4⟩
              · exact .inl ⟨by rw [HE.out, HNM.out, HST.out]; exact h0, .slice LA lm lc, .slice GA gm gc, by rw [h0, h1, h2, HNM.out, HST.out], by rw [HBS.out, dB_len]; exact h3, by rw [HGS.out, dG_len]; exact h4, h5⟩
              · exact .inr ⟨by rw [HE.out, HNM.out, HST.out]; exact h0, by rw [HE.out, HNM.out, HST.out, h1, h2, h3, h4]⟩
          · have hs5 : 8 * g + 4 * m ≤ c - 5 - (n + 12) := by have := HLE.out; have := HMG.out; omega
            have q0 := blk_cell HO3.out 0
            have q1 := blk_cell HO3.out 1
            have q2 := blk_cell HO3.out 2
            have q3 := blk_cell HO3.out 3
            simp at q0 q1 q2 q3
            have HNE := hd (show w.heap.size ≠ O by have h1 := HOL.out; have h2 := blk_lt HR.out; omega)
            have hne := HNE.out
            have hne' := hne.symm
            rw [hL]
            clear r0 r1 r2 r3 y0 y1 y2 y3 hs1 hgt2 hlt2
            have wr1 : IntKind.i64.wrap (8 * (g : Int)) = 8 * (g : Int) := IntWalk.i64_in _ (by omega)
            have wr2 : (0 : Int) ≤ 8 * (g : Int) := by omega
            have wr3 : (8 * (g : Int)).toNat = 8 * g := by omega
            have wr4 : 8 * (g : Int) ≤ ((c - 5 - (n + 12) : Nat) : Int) := by omega
            have wr5 : 8 * (g : Int) ≤ 8 * (g : Int) + 4 * (m : Int) := by omega
            go_region_held3 (fun x => x.cell? ⟨O, 0, none⟩ = some (.string (s.extract 5 (5 + n))) ∧ x.cell? ⟨O, 1, none⟩ = some (.int .i64 (f : Int)) ∧ x.cell? ⟨O, 2, none⟩ = some (.slice none 0 0) ∧ x.cell? ⟨O, 3, none⟩ = some (.slice none 0 0)) (go_keep)
              (first
                | (go_at_call 46; refine (body_any2 (s.extract 5 (5 + n)) (f : Int) s (17 + n) (17 + n + 8 * g) g m _ _ _ _ w3.drew (HRW.out _ HK3.out.drew _ _ _ _ (by omega) (by have := HLE.out; unfold maxLen; omega) (fun h0 => by first | (exfalso; omega) | (congr 2; omega) | rfl) (by have := HMG.out; omega)) (HRW.out _ HK3.out.drew _ _ _ _ (by first | omega | (have := HMG.out; have := HLE.out; omega)) (by have := HLE.out; unfold maxLen; omega) (fun h0 => by first | (exfalso; omega) | (congr 2; omega) | rfl) (by have := HMG.out; omega)) (by omega) HNZ.out).mono ?_; rintro e w5 ⟨nm', st', LA, lm, lc, GA, gm, gc, rfl, hb5, hdd⟩; have HDD := hdd; have HB5 := hd (HB.out.trans ((HK3.out.drew.trans (hb5.mono HK3.out.size)).mono HB.out.size)); have HR5 := hd ((hb5.block _ (show w.heap.size < w3.heap.size from Nat.lt_of_lt_of_le (blk_lt HR.out) HK3.out.size)).trans ((HK3.out.block _ (blk_lt HR.out)).trans HR.out)); have hO5 := (hb5.block _ (show O < w3.heap.size from blk_lt HO3.out)).trans HO3.out; have p0 := blk_cell hO5 0; have p1 := blk_cell hO5 1; have p2 := blk_cell hO5 2; have p3 := blk_cell hO5 3; simp at p0 p1 p2 p3; have r0 := blk_cell HR5.out 0; have r1 := blk_cell HR5.out 1; have r2 := blk_cell HR5.out 2; have r3 := blk_cell HR5.out 3; simp at r0 r1 r2 r3; have y0 := blk_frozen HR5.out 0; have y1 := blk_frozen HR5.out 1; have y2 := blk_frozen HR5.out 2; have y3 := blk_frozen HR5.out 3; clear hdd hb5 hO5 q0 q1 q2 q3))
            all_goals
              have hq := set4S_blk HR5.out (.string nm') (.int .i64 st') (.slice LA lm lc) (.slice GA gm gc)
              have z0 := blk_cell hq 0
              have z1 := blk_cell hq 1
              have z2 := blk_cell hq 2
              have z3 := blk_cell hq 3
              simp at z0 z1 z2 z3
              have HB6 := hd (set4S_below HB5.out (Nat.le_refl _) (.string nm') (.int .i64 st') (.slice LA lm lc) (.slice GA gm gc))
              have HD6 := hd (show (bodE (s.extract 5 (5 + n)) (f : Int) s (17 + n) (17 + n + 8 * g) g m = 0 ∧ nm' = (s.extract 5 (5 + n)) ∧ st' = (f : Int) ∧ Rd (set4S w5 w.heap.size (.string nm') (.int .i64 st') (.slice LA lm lc) (.slice GA gm gc)) (set4S w5 w.heap.size (.string nm') (.int .i64 st') (.slice LA lm lc) (.slice GA gm gc)).heap.size (.slice LA lm lc) m (flc (dB s (17 + n + 8 * g) m)) ∧ Rd (set4S w5 w.heap.size (.string nm') (.int .i64 st') (.slice LA lm lc) (.slice GA gm gc)) (set4S w5 w.heap.size (.string nm') (.int .i64 st') (.slice LA lm lc) (.slice GA gm gc)).heap.size (.slice GA gm gc) g (spc (dG s (17 + n) g)) ∧ Full (.slice LA lm lc)) ∨
                   (bodE (s.extract 5 (5 + n)) (f : Int) s (17 + n) (17 + n + 8 * g) g m ≠ 0 ∧ nm' = ⟨#[]⟩ ∧ st' = 0 ∧ Value.slice LA lm lc = .slice none 0 0 ∧ Value.slice GA gm gc = .slice none 0 0) from by
                rcases HDD.out with ⟨h0, h1, h2, h3, h4⟩ | h
                · exact .inl ⟨h0, h1, h2, rd_of_own (own_set4S h3 (own_boxS h3 HR5.out (by decide))), rd_of_own (own_set4S h4 (own_boxS h4 HR5.out (by decide))), full_own h3⟩
                · exact .inr h)
              change Exit.then _ _ _ _ (set4S w5 w.heap.size (.string nm') (.int .i64 st') (.slice LA lm lc) (.slice GA gm gc))
              generalize set4S w5 w.heap.size (.string nm') (.int .i64 st') (.slice LA lm lc) (.slice GA gm gc) = W6 at *
              clear hq HDD r0 r1 r2 r3 y0 y1 y2 y3 p0 p1 p2 p3 HB5 HR5
              go_wp2_with fail
              refine bodyPost_ret (v := .tuple #[.agg #[.string nm', .int .i64 st', .slice LA lm lc, .slice GA gm gc], .int .i64 (bodE (s.extract 5 (5 + n)) (f : Int) s (17 + n) (17 + n + 8 * g) g m)]) (by simp [results, Tryz.results17, go_sem, z0, z1, z2, z3]) rfl ⟨HB6.out, ?_⟩
              rcases HD6.out with ⟨h0, h1, h2, h3, h4, h5⟩ | ⟨h0, h1, h2, h3, h4⟩
              · exact .inl ⟨by rw [HE.out, HNM.out, HST.out]; exact h0, .slice LA lm lc, .slice GA gm gc, by rw [h0, h1, h2, HNM.out, HST.out], by rw [HBS.out, dB_len]; exact h3, by rw [HGS.out, dG_len]; exact h4, h5⟩
              · exact .inr ⟨by rw [HE.out, HNM.out, HST.out]; exact h0, by rw [HE.out, HNM.out, HST.out, h1, h2, h3, h4]⟩

theorem decode_anyF (s : ByteArray) (A : Option Addr) (c : Nat) (w : World) (h : Rd w w.heap.size (.slice A s.size c) s.size (Lib.strCells s)) (hs : s.size ≤ 500) :
    Calls Tryz.prog 17 #[.slice A s.size c] w (DecdF s w) := by
  by_cases h5 : s.size < 5
  · exact (decode_s5 s A c w hs h5).mono fun e w' hd => hd.bad (by unfold decE; rw [if_pos h5]; decide)
  · cases hm : ((s.extract 0 4).toList == [84, 73, 68, 69])
    · exact (decode_magic s A c w h hs h5 hm).mono fun e w' hd => hd.bad (by unfold decE; rw [if_neg h5, if_neg (by rw [hm]; decide)]; decide)
    · by_cases h17 : s.size < 17 + bAt s 4
      · exact (decode_torn s A c w h hs h5 hm h17).mono fun e w' hd => hd.bad (by unfold decE; rw [if_neg h5, if_pos hm, if_pos h17]; decide)
      · exact decode_rest s A c w h hs h5 hm h17
end Go.Proofs.YtkgkpcmokmhakaaGreatDoor

namespace Go.Proofs.YtkgkpcmokmhakaaGreatDoor
open Go Go.ChangeShapes Go.WideShapes Go.ChangeAt Go.RowKit Go.Joins
attribute [local go_sem] Oper.semAt_some

section
variable {H : Type} {enc : TypeId × Value → H}
set_option maxRecDepth 1000000 in
theorem trod_f32b {w : World} {base : Nat} {spare : Nat → Bool} {held : Bool} {t : TypeId} {fuel : Nat} {cs : List Value} {x : DataW H × List MemPlace} (ht : Tryz.prog.underlying t = some (.float .f32)) (h : DataW.trod enc Tryz.prog w base spare held fuel t cs = some x) : ∃ b, cs = [.float .f32 b] ∧ b < 4294967296 := by
  cases fuel with
  | zero => simp [DataW.trod] at h
  | succ n =>
    unfold DataW.trod at h
    simp only [ht] at h
    split at h
    all_goals first
      | (simp_all; done)
      | (rename_i k k' b hk
         first | (injection hk with hk; injection hk with hk) | injection hk with hk
         subst hk
         split at h
         · rename_i hw
           obtain ⟨rfl, hw2⟩ := hw
           exact ⟨b, rfl, by simpa [Lit.wf] using hw2⟩
         · cases h)
set_option maxRecDepth 1000000 in
theorem open_levels32 {W : World} {fuel : Nat} {v : Value} {x : DataW H × List MemPlace} (hf : DataW.trod enc Tryz.prog W 0 (fun _ => true) true fuel 22 [v] = some x) : ∃ l : List Nat, Rd W W.heap.size v l.length (flc l) ∧ Full v ∧ ∀ j, j < l.length → l.getD j 0 < 4294967296 := by
  rcases Deep.open_slice1 Tryz.underlying22 (by kernel_rfl) hf with ⟨e, -⟩ | ⟨a, len, cap, m, n, V, D, Pl, e, hb, hl, hm, hmm, -, hx⟩
  · injection e with e
    rw [e]
    exact ⟨[], Rd.nil _ _, .inl rfl, fun j hj => by simp at hj⟩
  · injection e with e
    subst e
    simp only [if_true] at hmm
    subst hmm
    obtain ⟨B, hB⟩ := Deep.choose_lt (α := Nat) (p := fun i q => V i = .float .f32 q ∧ q < 4294967296) (n := m) (fun i hi => by
      obtain ⟨b, h0, h1⟩ := trod_f32b Tryz.underlying60 (hx i hi).2
      exact ⟨b, by simpa using h0, h1⟩)
    refine ⟨(List.range len).map B, ?_, .inr ⟨a, len, m, rfl⟩, fun j hj => ?_⟩
    · have hlen : ((List.range len).map B).length = len := by simp
      rw [hlen]
      refine rd_of_cells (sz := 1) hl hm (by simp [flc]) (by omega) fun j hj => ?_
      refine ⟨_, (hx j (by omega)).1, ?_⟩
      rw [(hB j (by omega)).1]
      simp [flc, show j < len by omega]
    · have hj' : j < len := by simpa using hj
      have := (hB j (by omega)).2
      simpa [hj'] using this
end
end Go.Proofs.YtkgkpcmokmhakaaGreatDoor

namespace Go.Proofs.YtkgkpcmokmhakaaGreatDoor
open Go Go.RowKit

/-- A cell that is a byte. -/
def isByte (v : Value) : Prop := ∃ n : Nat, n < 256 ∧ v = .int .u8 (n : Int)
theorem bytes_str : ∀ l : List Value, (∀ v ∈ l, isByte v) → ∃ B : ByteArray, Lib.strCells B = l
  | [], _ => ⟨⟨#[]⟩, rfl⟩
  | v :: l, h => by
    obtain ⟨B, hB⟩ := bytes_str l (fun x hx => h x (List.mem_cons_of_mem _ hx))
    obtain ⟨n, hn, rfl⟩ := h v (List.mem_cons_self ..)
    refine ⟨⟨(UInt8.ofNat n :: B.data.toList).toArray⟩, ?_⟩
    unfold Lib.strCells at hB ⊢
    simp only [List.map_cons]
    rw [hB]
    congr 1
    simp
    omega
theorem four_byte (x : Nat) : ∀ v ∈ four x, isByte v := by
  intro v hv
  simp only [four, List.mem_cons, List.not_mem_nil, or_false] at hv
  rcases hv with rfl | rfl | rfl | rfl
  · exact ⟨x / 16777216 % 256, by omega, by congr 1⟩
  · exact ⟨x / 65536 % 256, by omega, by congr 1⟩
  · exact ⟨x / 256 % 256, by omega, by congr 1⟩
  · exact ⟨x % 256, by omega, by congr 1⟩
theorem fours_byte (ws : List Nat) : ∀ v ∈ fours ws, isByte v := by
  intro v hv
  unfold fours at hv
  obtain ⟨l, hl, hv⟩ := List.mem_flatten.1 hv
  obtain ⟨x, -, rfl⟩ := List.mem_map.1 hl
  exact four_byte x v hv
theorem encV_str (nm : ByteArray) (st : Int) (bs : List Nat) (gs : List (Int × Int)) (hn : nm.size < 256) : ∃ B : ByteArray, Lib.strCells B = encV nm st bs gs := by
  apply bytes_str
  intro v hv
  unfold encV encH at hv
  simp only [List.mem_append, List.mem_cons, List.not_mem_nil, or_false] at hv
  rcases hv with ((((h | h) | h) | h) | h) | h
  · rcases h with rfl | rfl | rfl | rfl
    · exact ⟨84, by omega, rfl⟩
    · exact ⟨73, by omega, rfl⟩
    · exact ⟨68, by omega, rfl⟩
    · exact ⟨69, by omega, rfl⟩
  · exact ⟨nm.size, hn, h⟩
  · unfold Lib.strCells at h
    obtain ⟨b, -, rfl⟩ := List.mem_map.1 h
    exact ⟨b.toNat, b.toNat_lt, rfl⟩
  · exact fours_byte _ v h
  · exact fours_byte _ v h
  · exact fours_byte _ v h
end Go.Proofs.YtkgkpcmokmhakaaGreatDoor

namespace Go.Proofs.YtkgkpcmokmhakaaGreatDoor
open Go Go.ChangeShapes Go.WideShapes Go.ChangeAt Go.RowKit Go.Joins
attribute [local go_sem] Oper.semAt_some

section
variable {H : Type} {enc : TypeId × Value → H}
end

end Go.Proofs.YtkgkpcmokmhakaaGreatDoor
