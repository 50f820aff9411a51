/-
  Contract of the reference's Decode, where the parts of the stream are there. Condition: the bytes are there, at most 500.
-/
import Derived.Test.YtkjgofknnhngdaaGreatDoorProg
import Derived.Test.YtkjgofknnhngdaaGreatDoorS6
import Derived.Test.YtkjgofknnhngdaaGreatDoorQ4
import Derived.Deep.Cut
import Derived.Deep.RegionLaw
import Derived.IntWalk
import Derived.Deep.DeepCutAuto
namespace Go.Proofs.YtkjgofknnhngdaaGreatDoor
open Go.RowKit
attribute [local go_sem] Oper.semAt_some

set_option maxRecDepth 1000000 in
set_option maxHeartbeats 8000000 in
theorem refDec_rest (s : ByteArray) (A : Option Addr) (c : Nat) (w : World) (h : Rd w w.heap.size (.slice A s.size c) s.size (Lib.strCells s)) (hs : s.size ≤ 500) (h5 : ¬ s.size < 5) (hm : ((s.extract 0 4).toList == [84, 73, 68, 69]) = true) (h17 : ¬ s.size < 17 + bAt s 4) :
    Calls Tryz.prog 17 #[.slice A s.size c] w (Decd s w) := by
  obtain ⟨i0, hi, hz0, hz1, hz2⟩ := info_parts spanInfo
  obtain ⟨j0, hj0, hy0, hy1, hy2⟩ := info_parts floatInfo
  have HIS := hd (And.intro hi (And.intro hz0 (And.intro hz1 hz2)))
  have HIF := hd (And.intro hj0 (And.intro hy0 (And.intro hy1 hy2)))
  clear hi hz0 hz1 hz2 hj0 hy0 hy1 hy2
  have hc1 : ¬ (4000000 : Int) < (s.size : Int) := by omega
  have hc2 : ¬ (s.size : Int) < 5 := by omega
  obtain ⟨A', c', e', hcc, hcm, hx⟩ := h
  cases e'
  obtain ⟨b, off, rfl, hbb, hcell⟩ := hx (by omega)
  unfold maxLen at hcm
  have HCA := hd (show ∀ i, i < s.size → w.cell? ⟨b, off + i, none⟩ = some (.int .u8 (bAt s i : Int)) from fun i hi => (hcell i (by rw [Lib.strCells_length]; exact hi)).trans (strCells_at s i hi))
  clear hcell hx
  obtain ⟨W0, hW0⟩ : ∃ W0, W0 = w.alloc (.cells #[.string ⟨#[]⟩, .int .i64 0, .slice none 0 0, .slice none 0 0] 25) := ⟨_, rfl⟩
  have HR := hd (show W0.heap[w.heap.size]? = some (.cells #[.string ⟨#[]⟩, .int .i64 0, .slice none 0 0, .slice none 0 0] 25 (0, 0)) by rw [hW0]; exact blk_new _ _ _)
  have HB := hd (show Below w.heap.size w W0 by rw [hW0]; exact (Below.refl _ w).alloc (Nat.le_refl _) _)
  have HBY := hd (show Lib.Bytes W0 b off s from bytes_of s W0 b off (fun i hi => (HB.out.cell (p := ⟨b, off + i, none⟩) hbb).trans (HCA.out i hi)))
  have hcv := Lib.run_convert_window (P := Tryz.prog) W0 41 5 9 Tryz.underlying41 Tryz.underlying5 Tryz.underlying9 b off s HBY.out 0 4 c (by omega)
  rw [Nat.add_zero, Nat.zero_add, hW0] at hcv
  have hl4 : (w.alloc (Obj.cells #[.string ⟨#[]⟩, .int .i64 0, .slice none 0 0, .slice none 0 0] 25)).cell? ⟨b, off + 4, none⟩ = some (.int .u8 (bAt s 4 : Int)) := by rw [← hW0]; exact (HB.out.cell (p := ⟨b, off + 4, none⟩) hbb).trans (HCA.out 4 (by omega))
  have hbn := bAt_lt s 4
  obtain ⟨n, hn⟩ : ∃ n, n = bAt s 4 := ⟨_, rfl⟩
  rw [← hn] at hl4 hbn h17
  have HN := hd hn
  have hrn : ¬ (s.size : Int) < 5 + (n : Int) + 12 := by omega
  have hc4 : 4 ≤ c := by omega
  have hc7 : 4 < s.size := by omega
  have hc8 : 5 + n ≤ s.size := by omega
  have hc9 : 5 + n ≤ c := by omega
  have hca : ¬ c = 5 + n := by omega
  have hcb : ¬ c = 5 := by omega
  have HLE := hd (show n + 17 ≤ s.size ∧ s.size ≤ 500 ∧ s.size ≤ c from ⟨by omega, hs, hcc⟩)
  have HSZ := hd h5
  clear hs h5 h17 hn
  obtain ⟨NX, hNX⟩ : ∃ NX : ByteArray, NX = s.extract 5 (5 + n) := ⟨_, rfl⟩
  have HNX := hd hNX
  have HCV := hd (fun (X : World) (hX : Below W0.heap.size W0 X) => show (convert 41 9 (.slice (some ⟨b, off + 5, none⟩) n (c - 5))).run Tryz.prog X = .ok (.string NX) X from
    by rw [hNX]; exact Lib.run_convert_window (P := Tryz.prog) X 41 5 9 Tryz.underlying41 Tryz.underlying5 Tryz.underlying9 b off s (bytes_of s X b off (fun i hi => (hX.cell (p := ⟨b, off + i, none⟩) (Nat.lt_of_lt_of_le hbb HB.out.size)).trans ((HB.out.cell (p := ⟨b, off + i, none⟩) hbb).trans (HCA.out i hi)))) 5 n (c - 5) (by have := HLE.out; omega))
  have HNA := hd (fun (p o m cc : Nat) (X : World) (hX : Below W0.heap.size W0 X) (ho : o = off + p) (hp : p + 4 ≤ s.size) (hm : 4 ≤ m) => show Calls Tryz.prog 67 #[.slice (some ⟨b, o, none⟩) m cc] X fun e w' => e = .returned (.int .u32 (w4 s p : Int)) ∧ Below X.heap.size X w' from by
    have hc : ∀ j, j < s.size → X.cell? ⟨b, off + j, none⟩ = some (.int .u8 (bAt s j : Int)) := fun j hj => (hX.cell (p := ⟨b, off + j, none⟩) (Nat.lt_of_lt_of_le hbb HB.out.size)).trans ((HB.out.cell (p := ⟨b, off + j, none⟩) hbb).trans (HCA.out j hj))
    subst ho
    refine (num4_any s b (off + p) m cc p X ?_ ?_ ?_ ?_ hm).mono ?_
    · exact hc p (by omega)
    · rw [Nat.add_assoc]; exact hc (p + 1) (by omega)
    · rw [Nat.add_assoc]; exact hc (p + 2) (by omega)
    · rw [Nat.add_assoc]; exact hc (p + 3) (by omega)
    · rintro e w' ⟨rfl, q', rfl⟩; exact ⟨rfl, below_dq (Below.refl _ _) q'⟩)
  have HNZ := hd (show NX.size ≤ maxLen by rw [hNX]; have h1 : (s.extract 5 (5 + n)).size = min (5 + n) s.size - 5 := (by simp); rw [h1]; unfold maxLen; have := HLE.out; omega)
  clear hNX
  go_enter Tryz.func17, Tryz.ntmps17
  go_wp2_with fail
  rw [← hW0]
  clear hW0
  obtain ⟨p, hp⟩ : ∃ p, p = 5 + n := ⟨_, rfl⟩
  have hpi : (5 : Int) + (n : Int) = (p : Int) := by omega
  have hpn : p - 5 = n := by omega
  rw [hpi]
  rw [← hpn] at HCV
  have HP := hd hp
  have ha1 : 5 ≤ p := by omega
  have ha2 : p ≤ c := by omega
  have ha3 : p ≤ s.size := by omega
  have ha4 : ¬ c = p := by omega
  have ha5 : (5 : Int) ≤ (p : Int) := by omega
  clear hc8 hc9 hca hrn hp hpi hpn
  have HW0 := hd (fun (X : World) (hX : Below W0.heap.size W0 X) => show Calls Tryz.prog 67 #[.slice (some ⟨b, off + p, none⟩) (s.size - p) (c - p)] X fun e w' => e = .returned (.int .u32 (w4 s p : Int)) ∧ Below X.heap.size X w' from
    HNA.out p (off + p) (s.size - p) (c - p) X hX rfl (by have := HLE.out; have := HP.out; omega) (by have := HLE.out; have := HP.out; omega))
  obtain ⟨f, hfe⟩ : ∃ f, f = w4 s p := ⟨_, rfl⟩
  have hf32 : f < 4294967296 := by rw [hfe]; exact w4_lt _ _
  have wr3 : IntKind.i64.wrap (f : Int) = (f : Int) := IntWalk.i64_in _ (by omega)
  rw [← hfe] at HW0
  have HFE := hd hfe
  clear hfe hf32
  have hcvA := HCV.out _ (Below.refl _ W0).drew
  have hcvB := HCV.out _ (((Below.refl _ W0).alloc (Nat.le_refl _) (Obj.cells #[.string ⟨#[]⟩, .int .i64 0, .slice none 0 0, .slice none 0 0] 25)).drew)
  go_cut [5] from 46 (fun s6 wx => ∃ (O : Nat), s6 = .pointer (some ⟨O, 0, none⟩) ∧ Hid (W0.heap.size ≤ O ∧ wx.heap[O]? = some (.cells #[.string NX, .int .i64 (f : Int), .slice none 0 0, .slice none 0 0] 25 (0, 0)) ∧ Below W0.heap.size W0 wx))
  case first =>
    go_region_law (first
      | (go_simp; go_at_call 67; (first | refine (HW0.out W0.drew (Below.refl _ W0).drew).mono ?_ | refine (HW0.out (W0.alloc (Obj.cells #[.string ⟨#[]⟩, .int .i64 0, .slice none 0 0, .slice none 0 0] 25)).drew ((Below.refl _ W0).alloc (Nat.le_refl _) _).drew).mono ?_); rintro e x1 ⟨rfl, hb⟩; (first
          | (have hbx : x1.heap[W0.heap.size]? = some (.cells #[.string ⟨#[]⟩, .int .i64 0, .slice none 0 0, .slice none 0 0] 25 (0, 0)) := (hb.block W0.heap.size (by show W0.heap.size < (W0.heap.push _).size; simp)).trans (blk_new W0 _ _); have c0 := blk_cell hbx 0; have c1 := blk_cell hbx 1; have c2 := blk_cell hbx 2; have c3 := blk_cell hbx 3; have d0 := blk_frozen hbx 0; have d1 := blk_frozen hbx 1; have d2 := blk_frozen hbx 2; have d3 := blk_frozen hbx 3; simp at c0 c1 c2 c3; have HX1 := hd (((Below.refl W0.heap.size W0).alloc (Nat.le_refl _) (Obj.cells #[.string ⟨#[]⟩, .int .i64 0, .slice none 0 0, .slice none 0 0] 25)).drew.trans (hb.mono (by show W0.heap.size ≤ (W0.heap.push _).size; simp))); have HBX := hd hbx; clear hbx)
          | (have HX1 := hd ((Below.refl W0.heap.size W0).drew.trans hb))); have hcvC := HCV.out _ HX1.out; have hcvD := HCV.out _ (HX1.out.alloc HX1.out.size (Obj.cells #[.string ⟨#[]⟩, .int .i64 0, .slice none 0 0, .slice none 0 0] 25)); clear hb))
    all_goals
      clear hcvC hcvD
      first
        | (have hbx2 := HBX.out
           change Exit.then _ _ _ _ (set4S x1 W0.heap.size (.string NX) (.int .i64 (f : Int)) (.slice none 0 0) (.slice none 0 0))
           have HQ := hd (set4S_blk hbx2 (.string NX) (.int .i64 (f : Int)) (.slice none 0 0) (.slice none 0 0))
           have HQB := hd (set4S_below HX1.out (Nat.le_refl _) (.string NX) (.int .i64 (f : Int)) (.slice none 0 0) (.slice none 0 0))
           clear hbx2 c0 c1 c2 c3 d0 d1 d2 d3
           generalize set4S x1 W0.heap.size (.string NX) (.int .i64 (f : Int)) (.slice none 0 0) (.slice none 0 0) = WX at *
           go_wp2_with fail
           go_meet
           exact ⟨W0.heap.size, rfl, hd ⟨Nat.le_refl _, HQ.out, HQB.out⟩⟩)
        | (have HQ := hd (blk_new x1 #[.string NX, .int .i64 (f : Int), .slice none 0 0, .slice none 0 0] 25)
           have HQB := hd (HX1.out.alloc HX1.out.size (Obj.cells #[.string NX, .int .i64 (f : Int), .slice none 0 0, .slice none 0 0] 25))
           have HQL := hd HX1.out.size
           generalize x1.alloc (Obj.cells #[.string NX, .int .i64 (f : Int), .slice none 0 0, .slice none 0 0] 25) = WX at *
           generalize x1.heap.size = OX at *
           go_wp2_with fail
           go_meet
           exact ⟨OX, rfl, hd ⟨HQL.out, HQ.out, HQB.out⟩⟩)
  case rest =>
    obtain ⟨O, rfl, HK⟩ := hcut
    clear wr3 hcvA hcvB HW0
    obtain ⟨m, hme⟩ : ∃ m, m = w4 s (p + 4) := ⟨_, rfl⟩
    obtain ⟨g, hge⟩ : ∃ g, g = w4 s (p + 8) := ⟨_, rfl⟩
    have hm32 : m < 4294967296 := by rw [hme]; exact w4_lt _ _
    have hg32 : g < 4294967296 := by rw [hge]; exact w4_lt _ _
    have HM1 := hd (fun (X : World) (hX : Below W0.heap.size W0 X) => show Calls Tryz.prog 67 #[.slice (some ⟨b, off + (p + 4), none⟩) (s.size - (p + 4)) (c - (p + 4))] X fun e w' => e = .returned (.int .u32 (m : Int)) ∧ Below X.heap.size X w' from by
      rw [hme]; exact HNA.out (p + 4) (off + (p + 4)) (s.size - (p + 4)) (c - (p + 4)) X hX rfl (by have := HLE.out; have := HP.out; omega) (by have := HLE.out; have := HP.out; omega))
    have HM2 := hd (fun (X : World) (hX : Below W0.heap.size W0 X) => show Calls Tryz.prog 67 #[.slice (some ⟨b, off + (p + 8), none⟩) (s.size - (p + 8)) (c - (p + 8))] X fun e w' => e = .returned (.int .u32 (g : Int)) ∧ Below X.heap.size X w' from by
      rw [hge]; exact HNA.out (p + 8) (off + (p + 8)) (s.size - (p + 8)) (c - (p + 8)) X hX rfl (by have := HLE.out; have := HP.out; omega) (by have := HLE.out; have := HP.out; omega))
    have HME := hd hme
    have HGE := hd hge
    have hpb : p ≤ 300 := by have := HP.out; omega
    have e1 : p + 4 ≤ s.size := by have := HLE.out; have := HP.out; omega
    have e2 : p + 8 ≤ s.size := by have := HLE.out; have := HP.out; omega
    have e3 : p + 4 ≤ c := by have := HLE.out; have := HP.out; omega
    have e4 : p + 8 ≤ c := by have := HLE.out; have := HP.out; omega
    have e5 : ¬ c = p + 4 := by have := HLE.out; have := HP.out; omega
    have e6 : ¬ c = p + 8 := by have := HLE.out; have := HP.out; omega
    clear hme hge hcb ha1 ha2 ha3 ha4 ha5
    go_wp2_with fail
    refine wp_region_bw (by kernel_rfl) (by kernel_rfl) ?_
    iterate 4 go_big_quiet_step (fail)
    go_big_quiet_step (first | (go_at_call 67; exact Bw.call _ (HM1.out _ (HK.out.2.2.trans (Bw.below _ |>.mono HK.out.2.2.size)))))
    iterate 5 go_big_quiet_step (fail)
    go_big_quiet_step (first | (go_at_call 67; exact Bw.call _ (HM2.out _ (HK.out.2.2.trans (Bw.below _ |>.mono HK.out.2.2.size)))))
    iterate 3 go_big_quiet_step (fail)
    refine wpQuiet_nil ?_
    rintro ⟨w3, hb3⟩
    change Exit.then _ _ _ _ w3
    have HK3 := hd (HK.out.2.2.trans (hb3.mono HK.out.2.2.size))
    have HO3 := hd ((hb3.block _ (blk_lt HK.out.2.1)).trans HK.out.2.1)
    have HOL := hd HK.out.1
    have HR2 := hd ((HK3.out.block _ (blk_lt HR.out)).trans HR.out)
    have HB2 := hd (HB.out.trans (HK3.out.mono HB.out.size))
    clear hb3 HK HM1 HM2 e1 e2 e3 e4 e5 e6
    obtain ⟨q, hq'⟩ : ∃ q, q = p + 12 := ⟨_, rfl⟩
    have hqi : (p : Int) + 12 = (q : Int) := by omega
    have HQQ := hd hq'
    have hqb : q ≤ 300 := by have := HP.out; omega
    have HQS := hd (show q ≤ s.size by have := HLE.out; have := HP.out; omega)
    have r0 := blk_cell HR2.out 0
    have r1 := blk_cell HR2.out 1
    have r2 := blk_cell HR2.out 2
    have r3 := blk_cell HR2.out 3
    have y0 := blk_frozen HR2.out 0
    have y1 := blk_frozen HR2.out 1
    have y2 := blk_frozen HR2.out 2
    have y3 := blk_frozen HR2.out 3
    simp at r0 r1 r2 r3
    by_cases hlt : s.size < q + 8 * g + 4 * m
    · have HE := hd (show decE s = 29 by unfold decE; rw [if_neg HSZ.out, if_pos hm, if_neg (by rw [← HN.out]; have := HLE.out; omega)]; unfold dNg dNl; rw [show 9 + bAt s 4 = p + 4 by rw [← HN.out]; have := HP.out; omega, show 13 + bAt s 4 = p + 8 by rw [← HN.out]; have := HP.out; omega, show 17 + bAt s 4 = q by subst hq'; rw [← HN.out]; have := HP.out; omega, ← HGE.out, ← HME.out]; exact if_pos hlt)
      have hlt2 : (s.size : Int) < (p : Int) + 12 + 8 * (g : Int) + 4 * (m : Int) := by omega
      clear hlt hq' hqi
      go_wp2_with fail
      all_goals
        have hq := set4S_blk HR2.out (.string ⟨#[]⟩) (.int .i64 0) (.slice none 0 0) (.slice none 0 0)
        have z0 := blk_cell hq 0
        have z1 := blk_cell hq 1
        have z2 := blk_cell hq 2
        have z3 := blk_cell hq 3
        simp at z0 z1 z2 z3
        have HB5 := hd (set4S_below HB2.out (Nat.le_refl _) (.string ⟨#[]⟩) (.int .i64 0) (.slice none 0 0) (.slice none 0 0))
        change bodyPost _ _ _ _ _ (set4S w3 w.heap.size (.string ⟨#[]⟩) (.int .i64 0) (.slice none 0 0) (.slice none 0 0))
        generalize set4S w3 w.heap.size (.string ⟨#[]⟩) (.int .i64 0) (.slice none 0 0) (.slice none 0 0) = W6 at *
        clear hq r0 r1 r2 r3 y0 y1 y2 y3
        exact bodyPost_ret (v := .tuple #[.agg #[.string ⟨#[]⟩, .int .i64 0, .slice none 0 0, .slice none 0 0], .int .i64 29]) (by simp [results, Tryz.results17, go_sem, z0, z1, z2, z3]) rfl ⟨HB5.out, .inr ⟨by rw [HE.out]; decide, by rw [HE.out]⟩⟩
    · by_cases hgt : q + 8 * g + 4 * m < s.size
      · have HE := hd (show decE s = 2 by unfold decE; rw [if_neg HSZ.out, if_pos hm, if_neg (by rw [← HN.out]; have := HLE.out; omega)]; unfold dNg dNl; rw [show 9 + bAt s 4 = p + 4 by rw [← HN.out]; have := HP.out; omega, show 13 + bAt s 4 = p + 8 by rw [← HN.out]; have := HP.out; omega, show 17 + bAt s 4 = q by subst hq'; rw [← HN.out]; have := HP.out; omega, ← HGE.out, ← HME.out]; rw [if_neg hlt]; exact if_pos hgt)
        have hlt2 : ¬ (s.size : Int) < (p : Int) + 12 + 8 * (g : Int) + 4 * (m : Int) := by omega
        have hgt2 : (p : Int) + 12 + 8 * (g : Int) + 4 * (m : Int) < (s.size : Int) := by omega
        clear hlt hgt hq' hqi
        go_wp2_with fail
        all_goals
          have hq := set4S_blk HR2.out (.string ⟨#[]⟩) (.int .i64 0) (.slice none 0 0) (.slice none 0 0)
          have z0 := blk_cell hq 0
          have z1 := blk_cell hq 1
          have z2 := blk_cell hq 2
          have z3 := blk_cell hq 3
          simp at z0 z1 z2 z3
          have HB5 := hd (set4S_below HB2.out (Nat.le_refl _) (.string ⟨#[]⟩) (.int .i64 0) (.slice none 0 0) (.slice none 0 0))
          change bodyPost _ _ _ _ _ (set4S w3 w.heap.size (.string ⟨#[]⟩) (.int .i64 0) (.slice none 0 0) (.slice none 0 0))
          generalize set4S w3 w.heap.size (.string ⟨#[]⟩) (.int .i64 0) (.slice none 0 0) (.slice none 0 0) = W6 at *
          clear hq r0 r1 r2 r3 y0 y1 y2 y3
          exact bodyPost_ret (v := .tuple #[.agg #[.string ⟨#[]⟩, .int .i64 0, .slice none 0 0, .slice none 0 0], .int .i64 2]) (by simp [results, Tryz.results17, go_sem, z0, z1, z2, z3]) rfl ⟨HB5.out, .inr ⟨by rw [HE.out]; decide, by rw [HE.out]⟩⟩
      · have HE := hd (show decE s = bodE (dNm s) (dSt s) s q (q + 8 * g) g m by unfold decE; rw [if_neg HSZ.out, if_pos hm, if_neg (by rw [← HN.out]; have := HLE.out; omega)]; unfold dNg dNl; rw [show 9 + bAt s 4 = p + 4 by rw [← HN.out]; have := HP.out; omega, show 13 + bAt s 4 = p + 8 by rw [← HN.out]; have := HP.out; omega, show 17 + bAt s 4 = q by subst hq'; rw [← HN.out]; have := HP.out; omega, ← HGE.out, ← HME.out]; rw [if_neg hlt]; exact if_neg hgt)
        have HNM := hd (show dNm s = NX by unfold dNm; rw [← HN.out, HNX.out])
        have HST := hd (show dSt s = (f : Int) by unfold dSt; rw [← HN.out, HFE.out, HP.out])
        have HBS := hd (show dBs s = dB s (q + 8 * g) m by unfold dBs dNg dNl; rw [show 9 + bAt s 4 = p + 4 by rw [← HN.out]; have := HP.out; omega, show 13 + bAt s 4 = p + 8 by rw [← HN.out]; have := HP.out; omega, show 17 + bAt s 4 = q by rw [← HN.out]; have := HP.out; omega, ← HGE.out, ← HME.out])
        have HGS := hd (show dGs s = dG s q g by unfold dGs dNg; rw [show 13 + bAt s 4 = p + 8 by rw [← HN.out]; have := HP.out; omega, show 17 + bAt s 4 = q by rw [← HN.out]; have := HP.out; omega, ← HGE.out])
        have hlt2 : ¬ (s.size : Int) < (p : Int) + 12 + 8 * (g : Int) + 4 * (m : Int) := by omega
        have hgt2 : ¬ (p : Int) + 12 + 8 * (g : Int) + 4 * (m : Int) < (s.size : Int) := by omega
        have hgb : g ≤ 1000 := by have := HLE.out; omega
        have hmb : m ≤ 1000 := by have := HLE.out; omega
        have HMG := hd (show s.size = q + 8 * g + 4 * m by omega)
        have HD1 := hd (show DI 25 w.heap.size w w.heap.size O NX (f : Int) (.slice none 0 0) (.slice none 0 0) [] [] w3 from
          ⟨HO3.out, HR2.out, by have h1 := HOL.out; have h2 := blk_lt HR.out; omega, ⟨Nat.le_refl _, Nat.le_trans HB.out.size HOL.out⟩, World.ownsRow_nil _ _ _ _, World.ownsRow_nil _ _ _ _, HB2.out⟩)
        clear hlt hgt hm32 hg32 hq' r0 r1 r2 r3 y0 y1 y2 y3 HR2 HO3
        go_wp2_with fail
        clear hqi hlt2 hgt2
        have HNB := hd (fun (p o m cc : Nat) (X : World) (hX : Below w.heap.size w X) (ho : o = off + p) (hp : p + 4 ≤ s.size) (hm : 4 ≤ m) => show Calls Tryz.prog 67 #[.slice (some ⟨b, o, none⟩) m cc] X fun e w' => e = .returned (.int .u32 (w4 s p : Int)) ∧ Below X.heap.size X w' from by
          have hc : ∀ j, j < s.size → X.cell? ⟨b, off + j, none⟩ = some (.int .u8 (bAt s j : Int)) := fun j hj => (hX.cell (p := ⟨b, off + j, none⟩) hbb).trans (HCA.out j hj)
          subst ho
          refine (num4_any s b (off + p) m cc p X ?_ ?_ ?_ ?_ hm).mono ?_
          · exact hc p (by omega)
          · rw [Nat.add_assoc]; exact hc (p + 1) (by omega)
          · rw [Nat.add_assoc]; exact hc (p + 2) (by omega)
          · rw [Nat.add_assoc]; exact hc (p + 3) (by omega)
          · rintro e w' ⟨rfl, q', rfl⟩; exact ⟨rfl, below_dq (Below.refl _ _) q'⟩)
        go_loopw [4, 8] (fun u i wr => ∃ k P : Nat, k ≤ g ∧ P = q + 8 * k ∧ u = .int .i64 (P : Int) ∧ i = .int .i64 k ∧ Hid (∃ A c', DI 25 w.heap.size w w.heap.size O NX (f : Int) (.slice none 0 0) (.slice A k c') [] (dG s q k) wr)) (fun _ i _ => g - (intOf i).toNat)
        case atStart => exact ⟨0, q, Nat.zero_le _, rfl, rfl, rfl, ⟨none, 0, HD1.out⟩⟩
        case round =>
          obtain ⟨k, P, hk, hP, rfl, rfl, HI⟩ := hrel
          have HPP := hd hP
          clear HD1 hP
          obtain ⟨GA, gc, HJ'⟩ := HI.out
          have HJ := hd HJ'
          clear HI HJ'
          by_cases hlt : k < g
          · have e1 : P ≤ s.size := by have := HPP.out; have := HMG.out; omega
            have e2 : P + 4 ≤ s.size := by have := HPP.out; have := HMG.out; omega
            have e3 : P ≤ c := by have := HPP.out; have := HMG.out; have := HLE.out; omega
            have e4 : P + 4 ≤ c := by have := HPP.out; have := HMG.out; have := HLE.out; omega
            have e5 : ¬ c = P := by have := HPP.out; have := HMG.out; have := HLE.out; omega
            have e6 : ¬ c = P + 4 := by have := HPP.out; have := HMG.out; have := HLE.out; omega
            have e7 : P ≤ 10000 := by have := HMG.out; have := HLE.out; omega
            have HW1 := hd (fun (X : World) (hX : Below wr.heap.size wr X) => show Calls Tryz.prog 67 #[.slice (some ⟨b, off + P, none⟩) (s.size - P) (c - P)] X fun e w' => e = .returned (.int .u32 (w4 s (q + 8 * k) : Int)) ∧ Below X.heap.size X w' from by
              rw [← HPP.out]; exact HNB.out P (off + P) (s.size - P) (c - P) X (HJ.out.bel.trans (hX.mono HJ.out.bel.size)) rfl (by have := HPP.out; have := HMG.out; omega) (by have := HPP.out; have := HMG.out; omega))
            have HW2 := hd (fun (X : World) (hX : Below wr.heap.size wr X) => show Calls Tryz.prog 67 #[.slice (some ⟨b, off + (P + 4), none⟩) (s.size - (P + 4)) (c - (P + 4))] X fun e w' => e = .returned (.int .u32 (w4 s (q + 8 * k + 4) : Int)) ∧ Below X.heap.size X w' from by
              rw [← HPP.out]; exact HNB.out (P + 4) (off + (P + 4)) (s.size - (P + 4)) (c - (P + 4)) X (HJ.out.bel.trans (hX.mono HJ.out.bel.size)) rfl (by have := HPP.out; have := HMG.out; omega) (by have := HPP.out; have := HMG.out; omega))
            obtain ⟨F, hfe⟩ : ∃ F, F = w4 s (q + 8 * k) := ⟨_, rfl⟩
            obtain ⟨t, hte⟩ : ∃ t, t = w4 s (q + 8 * k + 4) := ⟨_, rfl⟩
            have hf32 : F < 4294967296 := by rw [hfe]; exact w4_lt _ _
            have ht32 : t < 4294967296 := by rw [hte]; exact w4_lt _ _
            rw [← hfe] at HW1
            rw [← hte] at HW2
            have HSU := hd (show dG s q (k + 1) = dG s q k ++ [((F : Int), (t : Int))] by rw [dG_succ, hfe, hte])
            clear hfe hte
            have HF3 := hd (fun (X : World) (hX : Below wr.heap.size wr X) => show X.cell? ⟨O, 3, none⟩ = some (.slice GA k gc) from (hX.cell (p := ⟨O, 3, none⟩) (blk_lt HJ.out.box)).trans (by simpa using blk_cell HJ.out.box 3))
            have f3 := HF3.out wr (Below.refl _ _)
            have hki : (k : Int) < (g : Int) := by omega
            have hk1 : (k : Int) ≤ 1000 := by omega
            have H63 := hd (show k + 1 ≤ maxLen by unfold maxLen; omega)
            have HBY2 := hd (show (k + 1) * 16 ≤ 140737488355328 by omega)
            go_wp2_with fail
            have wr1 : IntKind.i64.wrap ((P : Int) + 4) = (P : Int) + 4 := IntWalk.i64_in _ (by omega)
            have wr2 : (0 : Int) ≤ (P : Int) + 4 := by omega
            have wr3 : IntKind.i64.wrap (F : Int) = (F : Int) := IntWalk.i64_in _ (by omega)
            have wr4 : IntKind.i64.wrap (t : Int) = (t : Int) := IntWalk.i64_in _ (by omega)
            have wr5 : ((P : Int) + 4).toNat = P + 4 := by omega
            have wr6 : (P : Int) + 4 ≤ (s.size : Int) := by omega
            clear hf32 ht32
            go_region_law (first
              | (refine step_append_ownS (x2.alloc (Obj.cells #[.int .i64 (F : Int), .int .i64 (t : Int)] 51)) (by rfl) (.tmp 88) (.tmp 101) 23 (by rfl) w.heap.size 51 i0 (.agg #[.int .i64 0, .int .i64 0]) 2 16 Tryz.underlying23 HIS.out.1 HIS.out.2.1 HIS.out.2.2.1 HIS.out.2.2.2 rfl (by decide) (.slice GA k gc) k (spc (dG s q k)) (by rfl) (by have h := HJ2.out.gap; rw [dG_len] at h; exact h.alloc _) ⟨x2.heap.size, 0, none⟩ 1 1 [.int .i64 (F : Int), .int .i64 (t : Int)] (by rfl) (by rfl) (new_two x2 _ _ _) (by simp [Value.oneCell']) H63.out HBY2.out (by have h1 := HJ2.out.bel.size; simp; omega) ?_; intro v' w5 hown' hg5 _; obtain ⟨A5, c5, hv5, -⟩ := own_form hown'; subst hv5; have HNN := hd (And.intro hown' hg5); have HJ3 := hd (HJ2.out.below ((Below.refl _ x2).alloc (Nat.le_refl _) (Obj.cells #[.int .i64 (F : Int), .int .i64 (t : Int)] 51))); have hb5 := (hg5.block O (blk_lt HJ3.out.box) (blk_not_row HJ3.out.box (by decide) HJ3.out.gap)).trans HJ3.out.box; have r3 := blk_cell hb5 3; have r4 := blk_frozen hb5 3; simp at r3; clear hown' hg5 hb5)
              | (go_simp; go_at_call 67; refine (HW2.out x1 HX1.out).mono ?_; rintro e x2 ⟨rfl, hb⟩; have HX2 := hd (HX1.out.trans (hb.mono HX1.out.size)); have h3 := HF3.out _ HX2.out; have h3' := fun o => cell_alloc_old (o := o) h3; have HJ2 := hd (HJ.out.below HX2.out); clear hb)
              | (go_simp; go_at_call 67; refine (HW1.out wr.drew ((Below.refl _ wr).drew)).mono ?_; rintro e x1 ⟨rfl, hb⟩; have HX1 := hd (((Below.refl _ wr).drew).trans hb); have g3 := HF3.out _ HX1.out; clear hb))
            all_goals
              clear wr1 wr2 wr3 wr4 wr5 wr6 h3'
              go_wp2_with fail
              go_roundw
              case rel => exact ⟨k + 1, P + 8, by omega, by have := HPP.out; omega, by go_num, by go_num, hd ⟨A5, c5, by rw [HSU.out]; exact HJ3.out.putG (by decide) (by rw [dG_len]; exact HNN.out.1) HNN.out.2⟩⟩
              case measure => simp [intOf]; omega
          · obtain rfl : k = g := by omega
            have HK1 := hd (show DI 25 w.heap.size w w.heap.size O NX (f : Int) (.slice none 0 0) (.slice GA k gc) (dB s P 0) (dG s q k) wr from HJ.out)
            clear HJ
            rw [← HPP.out] at HE HBS
            have HMG2 := hd (show s.size = P + 4 * m by have := HPP.out; have := HMG.out; omega)
            go_wp2_with fail
            go_loopw [4, 9] (fun u i wr => ∃ j Q : Nat, j ≤ m ∧ Q = P + 4 * j ∧ u = .int .i64 (Q : Int) ∧ i = .int .i64 j ∧ Hid (∃ A c', DI 25 w.heap.size w w.heap.size O NX (f : Int) (.slice A j c') (.slice GA k gc) (dB s P j) (dG s q k) wr) ∧ Hid (2147483648 ∉ dB s P j)) (fun _ i _ => m - (intOf i).toNat)
            case atStart => exact ⟨0, P, Nat.zero_le _, rfl, rfl, rfl, ⟨none, 0, HK1.out⟩, hd (by simp [dB])⟩
            case round =>
              obtain ⟨j, Q, hj, hQ, rfl, rfl, HI, HM⟩ := hrel
              have HQP := hd hQ
              clear HK1 hQ
              obtain ⟨LA, lc, HJ'⟩ := HI.out
              have HJ := hd HJ'
              clear HI HJ'
              by_cases hlt2 : j < m
              · have e1 : Q ≤ s.size := by have := HQP.out; have := HMG2.out; omega
                have e3 : Q ≤ c := by have := HQP.out; have := HMG2.out; have := HLE.out; omega
                have e5 : ¬ c = Q := by have := HQP.out; have := HMG2.out; have := HLE.out; omega
                have e7 : Q ≤ 10000 := by have := HLE.out; omega
                have HW1 := hd (fun (X : World) (hX : Below wr.heap.size wr X) => show Calls Tryz.prog 67 #[.slice (some ⟨b, off + Q, none⟩) (s.size - Q) (c - Q)] X fun e w' => e = .returned (.int .u32 (w4 s (P + 4 * j) : Int)) ∧ Below X.heap.size X w' from by
                  rw [← HQP.out]; exact HNB.out Q (off + Q) (s.size - Q) (c - Q) X (HJ.out.bel.trans (hX.mono HJ.out.bel.size)) rfl (by have := HQP.out; have := HMG2.out; omega) (by have := HQP.out; have := HMG2.out; omega))
                obtain ⟨x, hxe⟩ : ∃ x, x = w4 s (P + 4 * j) := ⟨_, rfl⟩
                have hx32 : x < 4294967296 := by rw [hxe]; exact w4_lt _ _
                rw [← hxe] at HW1
                have HSU := hd (show dB s P (j + 1) = dB s P j ++ [x] by rw [dB_succ, hxe])
                have HIN := hd (show x ∈ dB s P m from by rw [hxe]; exact List.mem_map.2 ⟨j, List.mem_range.2 hlt2, rfl⟩)
                have hji : (j : Int) < (m : Int) := by omega
                have hjm : (j : Int) ≤ 1000 := by omega
                clear hxe
                go_wp2_with fail
                refine (HW1.out wr (Below.refl _ _)).mono ?_
                rintro e W2 ⟨rfl, hb⟩
                have HJ2 := hd (HJ.out.below hb)
                clear hb HW1
                by_cases hmin : x = 2147483648
                · subst hmin
                  have HJR := hd HJ2.out.res
                  have HJB := hd HJ2.out.bel
                  have r0 := blk_cell HJR.out 0
                  have r1 := blk_cell HJR.out 1
                  have r2 := blk_cell HJR.out 2
                  have r3 := blk_cell HJR.out 3
                  have y0 := blk_frozen HJR.out 0
                  have y1 := blk_frozen HJR.out 1
                  have y2 := blk_frozen HJR.out 2
                  have y3 := blk_frozen HJR.out 3
                  simp at r0 r1 r2 r3
                  have HE1 := hd (show decE s = 1 by rw [HE.out, HNM.out, HST.out]; unfold bodE; rw [if_pos HIN.out])
                  go_wp2_with fail
                  have hq := set4S_blk HJR.out (.string ⟨#[]⟩) (.int .i64 0) (.slice none 0 0) (.slice none 0 0)
                  have z0 := blk_cell hq 0
                  have z1 := blk_cell hq 1
                  have z2 := blk_cell hq 2
                  have z3 := blk_cell hq 3
                  simp at z0 z1 z2 z3
                  have HB5 := hd (set4S_below HJB.out (Nat.le_refl _) (.string ⟨#[]⟩) (.int .i64 0) (.slice none 0 0) (.slice none 0 0))
                  change bodyPost _ _ _ _ _ (set4S W2 w.heap.size (.string ⟨#[]⟩) (.int .i64 0) (.slice none 0 0) (.slice none 0 0))
                  generalize set4S W2 w.heap.size (.string ⟨#[]⟩) (.int .i64 0) (.slice none 0 0) (.slice none 0 0) = W6 at *
                  clear hq r0 r1 r2 r3 y0 y1 y2 y3
                  exact bodyPost_ret (v := .tuple #[.agg #[.string ⟨#[]⟩, .int .i64 0, .slice none 0 0, .slice none 0 0], .int .i64 1]) (by simp [results, Tryz.results17, go_sem, z0, z1, z2, z3]) rfl ⟨HB5.out, .inr ⟨by rw [HE1.out]; decide, by rw [HE1.out]⟩⟩
                · have f2 := blk_cell HJ2.out.box 2
                  simp at f2
                  have hmi : ¬ ((x : Int) = 2147483648) := by omega
                  have hfb : ∀ w : World, (callFunc 68 #[.int .u32 (x : Int)]).run Tryz.prog w = .ok (.value (.float .f32 x)) w := fun w => by have h := f32from_runS (x : Int) w; rwa [Int.toNat_natCast] at h
                  have H63 := hd (show j + 1 ≤ maxLen by unfold maxLen; omega)
                  have HBY2 := hd (show (j + 1) * 4 ≤ 140737488355328 by omega)
                  have HMM := hd (show 2147483648 ∉ dB s P (j + 1) from by rw [HSU.out]; simp only [List.mem_append, List.mem_singleton]; rintro (h | h); exact HM.out h; exact hmin h.symm)
                  clear hmin
                  have f2' := fun o => cell_alloc_old (w := W2.drew) (o := o) (show W2.drew.cell? ⟨O, 2, none⟩ = _ from f2)
                  have f2'' := fun o => cell_alloc_old (w := W2) (o := o) f2
                  have HJ4 := hd (HJ2.out.below ((Below.refl _ W2).drew.alloc (Nat.le_refl _) (Obj.cells #[.float .f32 x] 66)))
                  have HLV := hd (show (W2.drew.alloc (Obj.cells #[.float .f32 x] 66)).ownsRow w.heap.size 66 1 (.slice LA j lc) j (flc (dB s P j)) from by have h := HJ4.out.lev; rw [dB_len] at h; exact h)
                  go_wp2_with fail
                  go_region_law (first
                    | (refine step_append_ownS (W2.drew.alloc (Obj.cells #[.float .f32 x] 66)) (by rfl) (.tmp 119) (.tmp 122) 22 (by rfl) w.heap.size 66 j0 (.float .f32 0) 1 4 Tryz.underlying22 HIF.out.1 HIF.out.2.1 HIF.out.2.2.1 HIF.out.2.2.2 rfl (by decide) (.slice LA j lc) j (flc (dB s P j)) (by rfl) HLV.out ⟨W2.heap.size, 0, none⟩ 1 1 [.float .f32 x] (by rfl) (by rfl) (cell_one_newS W2.drew _ _) (by simp [Value.oneCell']) H63.out HBY2.out (by have h1 := HJ2.out.bel.size; simp; omega) ?_; intro v' w5 hown' hg5 _; obtain ⟨A5, c5, hv5, -⟩ := own_form hown'; subst hv5; have HNN := hd (And.intro hown' hg5); have hb5 := (hg5.block O (blk_lt HJ4.out.box) (blk_not_row HJ4.out.box (by decide) HJ4.out.lev)).trans HJ4.out.box; have r3 := blk_cell hb5 2; have r4 := blk_frozen hb5 2; simp at r3; clear hown' hg5 hb5))
                  all_goals
                    clear f2' f2''
                    go_wp2_with fail
                    go_roundw
                    case rel => exact ⟨j + 1, Q + 4, by omega, by have := HQP.out; omega, by go_num, by go_num, hd ⟨A5, c5, by rw [HSU.out]; exact HJ4.out.putL (by decide) (by rw [dB_len]; exact HNN.out.1) HNN.out.2⟩, HMM⟩
                    case measure => simp [intOf]; omega
              · obtain rfl : j = m := by omega
                have HE2 := hd (show decE s = chkRec NX (f : Int) (dB s P j) (dG s q k) by rw [HE.out, HNM.out, HST.out]; unfold bodE; rw [if_neg HM.out])
                obtain ⟨E, hEe⟩ : ∃ E, E = chkRec NX (f : Int) (dB s P j) (dG s q k) := ⟨_, rfl⟩
                rw [← hEe] at HE2
                have HEE := hd hEe
                clear hEe
                have b0 := blk_cell HJ.out.box 0
                have b1 := blk_cell HJ.out.box 1
                have b2 := blk_cell HJ.out.box 2
                have b3 := blk_cell HJ.out.box 3
                simp at b0 b1 b2 b3
                have HRL3 := hd (show Rd wr wr.heap.size (.slice LA j lc) (dB s P j).length (flc (dB s P j)) from by rw [dB_len]; have h := rd_of_own HJ.out.lev; rw [dB_len] at h; exact h)
                have HRG3 := hd (show Rd wr wr.heap.size (.slice GA k gc) (dG s q k).length (spc (dG s q k)) from by rw [dG_len]; have h := rd_of_own HJ.out.gap; rw [dG_len] at h; exact h)
                go_wp2_with fail
                refine (refRec_any NX (f : Int) _ _ (dB s P j) (dG s q k) _ HRL3.out HRG3.out HNZ.out).mono ?_
                rw [← HEE.out]
                rintro e w7 ⟨rfl, hb⟩
                have HJ5 := hd (HJ.out.below hb)
                have HJR := hd HJ5.out.res
                have HJB := hd HJ5.out.bel
                clear b0 b1 b2 b3 hb HRL3 HRG3
                have r0 := blk_cell HJR.out 0
                have r1 := blk_cell HJR.out 1
                have r2 := blk_cell HJR.out 2
                have r3 := blk_cell HJR.out 3
                have y0 := blk_frozen HJR.out 0
                have y1 := blk_frozen HJR.out 1
                have y2 := blk_frozen HJR.out 2
                have y3 := blk_frozen HJR.out 3
                simp at r0 r1 r2 r3
                by_cases h0 : E = 0
                · have hE0 : (E != 0) = false := by simp [h0]
                  have c0 := blk_cell HJ5.out.box 0
                  have c1' := blk_cell HJ5.out.box 1
                  have c2' := blk_cell HJ5.out.box 2
                  have c3 := blk_cell HJ5.out.box 3
                  simp at c0 c1' c2' c3
                  have H0 := hd h0
                  clear h0
                  go_wp2_with fail
                  have hq := set4S_blk HJR.out (.string NX) (.int .i64 (f : Int)) (.slice LA j lc) (.slice GA k gc)
                  have z0 := blk_cell hq 0
                  have z1 := blk_cell hq 1
                  have z2 := blk_cell hq 2
                  have z3 := blk_cell hq 3
                  simp at z0 z1 z2 z3
                  have HB5 := hd (set4S_below HJB.out (Nat.le_refl _) (.string NX) (.int .i64 (f : Int)) (.slice LA j lc) (.slice GA k gc))
                  have HL6 := hd (rd_of_own (own_set4S (R := w.heap.size) (a := .string NX) (b := .int .i64 (f : Int)) (c := .slice LA j lc) (d := .slice GA k gc) HJ5.out.lev (own_boxS HJ5.out.lev HJ5.out.res (by decide))))
                  have HG6 := hd (rd_of_own (own_set4S (R := w.heap.size) (a := .string NX) (b := .int .i64 (f : Int)) (c := .slice LA j lc) (d := .slice GA k gc) HJ5.out.gap (own_boxS HJ5.out.gap HJ5.out.res (by decide))))
                  change bodyPost _ _ _ _ _ (set4S w7 w.heap.size (.string NX) (.int .i64 (f : Int)) (.slice LA j lc) (.slice GA k gc))
                  generalize set4S w7 w.heap.size (.string NX) (.int .i64 (f : Int)) (.slice LA j lc) (.slice GA k gc) = W6 at *
                  clear hq r0 r1 r2 r3 y0 y1 y2 y3
                  exact bodyPost_ret (v := .tuple #[.agg #[.string NX, .int .i64 (f : Int), .slice LA j lc, .slice GA k gc], .int .i64 0]) (by simp [results, Tryz.results17, go_sem, z0, z1, z2, z3]) rfl ⟨HB5.out, .inl ⟨by rw [HE2.out]; exact H0.out, .slice LA j lc, .slice GA k gc, by rw [HNM.out, HST.out], by rw [HBS.out]; have h := HL6.out; rw [dB_len] at h ⊢; exact h, by rw [HGS.out]; have h := HG6.out; rw [dG_len] at h ⊢; exact h⟩⟩
                · have hE0 : (E != 0) = true := by simp [h0]
                  have H0 := hd h0
                  clear h0
                  go_wp2_with fail
                  have hq := set4S_blk HJR.out (.string ⟨#[]⟩) (.int .i64 0) (.slice none 0 0) (.slice none 0 0)
                  have z0 := blk_cell hq 0
                  have z1 := blk_cell hq 1
                  have z2 := blk_cell hq 2
                  have z3 := blk_cell hq 3
                  simp at z0 z1 z2 z3
                  have HB5 := hd (set4S_below HJB.out (Nat.le_refl _) (.string ⟨#[]⟩) (.int .i64 0) (.slice none 0 0) (.slice none 0 0))
                  change bodyPost _ _ _ _ _ (set4S w7 w.heap.size (.string ⟨#[]⟩) (.int .i64 0) (.slice none 0 0) (.slice none 0 0))
                  generalize set4S w7 w.heap.size (.string ⟨#[]⟩) (.int .i64 0) (.slice none 0 0) (.slice none 0 0) = W6 at *
                  clear hq r0 r1 r2 r3 y0 y1 y2 y3
                  exact bodyPost_ret (v := .tuple #[.agg #[.string ⟨#[]⟩, .int .i64 0, .slice none 0 0, .slice none 0 0], .int .i64 E]) (by simp [results, Tryz.results17, go_sem, z0, z1, z2, z3]) rfl ⟨HB5.out, .inr ⟨by rw [HE2.out]; exact H0.out, by rw [HE2.out]⟩⟩

theorem refDec_any (s : ByteArray) (A : Option Addr) (c : Nat) (w : World) (h : Rd w w.heap.size (.slice A s.size c) s.size (Lib.strCells s)) (hs : s.size ≤ 500) :
    Calls Tryz.prog 17 #[.slice A s.size c] w (Decd s w) := by
  by_cases h5 : s.size < 5
  · exact refDec_s5 s A c w hs h5
  · cases hm : ((s.extract 0 4).toList == [84, 73, 68, 69])
    · exact refDec_magic s A c w h hs h5 hm
    · by_cases h17 : s.size < 17 + bAt s 4
      · exact refDec_torn s A c w h hs h5 hm h17
      · exact refDec_rest s A c w h hs h5 hm h17
end Go.Proofs.YtkjgofknnhngdaaGreatDoor
