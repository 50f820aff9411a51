/-
  A record that the theorems of the whole copy. Conditions: at most 100000 levels and gaps.
  Contracts of gauge.Reasons and gauge.Clean. Conditions: a valid record, valid rules.
  Contract of the statements' hook: the record of the document's examples. No condition.
-/
import Derived.Test.YtkgkpcmokmhakaaGreatDoorProg
import Derived.Test.YtkgkpcmokmhakaaGreatDoorMK
import Derived.Test.YtkgkpcmokmhakaaGreatDoorOpm
import Derived.Test.YtkgkpcmokmhakaaGreatDoorMR
import Derived.Test.YtkgkpcmokmhakaaGreatDoorF0
import Derived.Test.YtkgkpcmokmhakaaGreatDoorET
import Derived.Deep.RegionHeld3
import Derived.Test.YtkgkpcmokmhakaaGreatDoorMN

namespace Go.Proofs.YtkgkpcmokmhakaaGreatDoor
open Go.RowKit
attribute [local go_sem] Oper.semAt_some

/-- The same, in rows of its own. -/
def SRecO (nm : ByteArray) (st : Int) (bs : List Nat) (gs : List (Int × Int)) (w : World) (e : Ending) (w' : World) : Prop :=
  ∃ lv gv, e = .returned (.agg #[.string nm, .int .i64 st, lv, gv]) ∧ w'.ownsRow w.heap.size 60 1 lv bs.length (flc bs) ∧ w'.ownsRow w.heap.size 50 2 gv gs.length (spc gs) ∧ Below w.heap.size w w'
theorem full_none {A : Option Addr} {n c : Nat} (h : Full (.slice A n c)) (e : A = none) : n = 0 ∧ c = 0 := by
  rcases h with h | ⟨ad, n', c', h⟩
  · injection h with e1 e2 e3; exact ⟨e2, e3⟩
  · injection h with e1 e2 e3; rw [e] at e1; cases e1
theorem rd_news {w X : World} {A : Option Addr} {n c : Nat} {xs : List Value} (h : Rd w w.heap.size (.slice A n c) n xs) (hx : xs ≠ [] → 0 < n) (hb : Below w.heap.size w X) (ad : Addr) (ha : A = some ad) (j : Nat) (u : Value) (hu : xs[j]? = some u) : X.cell? (ad.add j) = some u := by
  have hj : j < xs.length := (List.getElem?_eq_some_iff.1 hu).1
  obtain ⟨A', c', e', -, -, hcl⟩ := h
  cases e'
  obtain ⟨b, off, e1, hbb, hc⟩ := hcl (hx (fun e => by rw [e] at hj; simp at hj))
  rw [ha] at e1
  cases e1
  have e : (⟨b, off, none⟩ : Addr).add j = ⟨b, off + j, none⟩ := by unfold Addr.add; split <;> simp_all
  rw [e]
  exact (hb.cell (p := ⟨b, off + j, none⟩) hbb).trans ((hc j hj).trans hu)

set_option maxRecDepth 1000000 in
set_option maxHeartbeats 4000000 in
theorem sRec_own (nm : ByteArray) (st : Int) (A A2 : Option Addr) (c c2 : Nat) (bs : List Nat) (gs : List (Int × Int)) (w : World) (hl : Rd w w.heap.size (.slice A bs.length c) bs.length (flc bs)) (hg : Rd w w.heap.size (.slice A2 gs.length c2) gs.length (spc gs)) (fl : Full (.slice A bs.length c)) (fg : Full (.slice A2 gs.length c2)) (hn : bs.length ≤ 100000) (hm : gs.length ≤ 100000) :
    Calls Tryz.prog 9 #[.agg #[.string nm, .int .i64 st, .slice A bs.length c, .slice A2 gs.length c2]] w (SRecO nm st bs gs w) := by
  obtain ⟨i0, hi, hz0, hz1, hz2⟩ := info_parts spanInfo
  obtain ⟨j0, hj, hy0, hy1, hy2⟩ := info_parts floatInfo
  have HJ := hd (And.intro hj (And.intro hy0 (And.intro hy1 hy2)))
  have HI := hd (And.intro hi (And.intro hz0 (And.intro hz1 hz2)))
  have HN1 := hd (full_none fl)
  have HN2 := hd (full_none fg)
  have HW1 := hd (fun (X : World) hb => rd_news (X := X) hl (fun h => by rcases Nat.eq_zero_or_pos bs.length with h0 | h0; (exact absurd (by simp [List.eq_nil_of_length_eq_zero h0, flc]) h); exact h0) hb)
  have HW2 := hd (fun (X : World) hb => rd_news (X := X) hg (fun h => by rcases Nat.eq_zero_or_pos gs.length with h0 | h0; (exact absurd (by simp [List.eq_nil_of_length_eq_zero h0, spc]) h); exact h0) hb)
  have H63 := hd (show 0 + bs.length ≤ maxLen by unfold maxLen; omega)
  have HBY := hd (show (0 + bs.length) * 4 ≤ 140737488355328 by omega)
  have G63 := hd (show 0 + gs.length ≤ maxLen by unfold maxLen; omega)
  have GBY := hd (show (0 + gs.length) * 16 ≤ 140737488355328 by omega)
  obtain ⟨W1, hW1⟩ : ∃ W1, W1 = ((w.alloc (Obj.cells #[.string nm, .int .i64 st, .slice A bs.length c, .slice A2 gs.length c2] 25)).alloc (Obj.cells #[.string ⟨#[]⟩, .int .i64 0, .slice none 0 0, .slice none 0 0] 35)) := ⟨_, rfl⟩
  have hs1 : W1.heap.size = w.heap.size + 2 := by rw [hW1]; simp
  have hB : Below w.heap.size w W1 := by rw [hW1]; exact ((Below.refl _ w).alloc (Nat.le_refl _) _).alloc (by simp) _
  have hq : W1.heap[w.heap.size]? = some (.cells #[.string nm, .int .i64 st, .slice A bs.length c, .slice A2 gs.length c2] 25 (0, 0)) := by
    rw [hW1, Below.heap_alloc _ _ _ (by simp)]; exact blk_new _ _ _
  have hr : W1.heap[w.heap.size + 1]? = some (.cells #[.string ⟨#[]⟩, .int .i64 0, .slice none 0 0, .slice none 0 0] 35 (0, 0)) := by
    have h1 := blk_new (w.alloc (Obj.cells #[.string nm, .int .i64 st, .slice A bs.length c, .slice A2 gs.length c2] 25)) #[.string ⟨#[]⟩, .int .i64 0, .slice none 0 0, .slice none 0 0] 35
    simp only [World.size_alloc] at h1
    rw [hW1]; exact h1
  have HB := hd hB
  have HQ := hd hq
  have HR := hd hr
  have HS := hd hs1
  have q0 := blk_cell hq 0
  have q1 := blk_cell hq 1
  have q2 := blk_cell hq 2
  have q3 := blk_cell hq 3
  simp at q0 q1 q2 q3
  have hle := hB.size
  have hwW : w.heap.size < W1.heap.size := by omega
  have hwW2 : w.heap.size + 1 < W1.heap.size := by omega
  have hnB : W1.heap.size ≠ w.heap.size := by omega
  have hnB' := hnB.symm
  have hnD : W1.heap.size + 1 ≠ w.heap.size := by omega
  have hnD' := hnD.symm
  have HA1 := hd (show (W1.alloc (Obj.cells #[] 60)).drew.ownsRow W1.heap.size 60 1 (.slice (some ⟨W1.heap.size, 0, none⟩) 0 0) 0 [] from World.ownsRow.drew (World.ownsRow_lit W1 #[] 0 (Nat.le_refl _) (by decide) rfl))
  have HA2 := hd (show ((W1.alloc (Obj.cells #[] 60)).alloc (Obj.cells #[] 50)).drew.ownsRow W1.heap.size 60 1 (.slice (some ⟨W1.heap.size, 0, none⟩) 0 0) 0 [] from World.ownsRow.drew (World.ownsRow.alloc (World.ownsRow_lit W1 #[] 0 (Nat.le_refl _) (by decide) rfl) _))
  have HA3 := hd (show ((W1.alloc (Obj.cells #[] 50)).alloc (Obj.cells #[] 60)).drew.ownsRow W1.heap.size 60 1 (.slice (some ⟨W1.heap.size + 1, 0, none⟩) 0 0) 0 [] from by
    have h := World.ownsRow_lit (W1.alloc (Obj.cells #[] 50)) #[] 0 (e := 60) (size := 1) (Nat.le_refl _) (by decide) rfl
    rw [World.size_alloc] at h
    exact World.ownsRow.drew (own_base h (by show W1.heap.size ≤ W1.heap.size + 1; omega)))
  have HC2 := hd (show ((W1.alloc (Obj.cells #[] 60)).alloc (Obj.cells #[] 50)).drew.ownsRow W1.heap.size 50 2 (.slice (some ⟨W1.heap.size + 1, 0, none⟩) 0 0) 0 [] from by
    have h := World.ownsRow_lit (W1.alloc (Obj.cells #[] 60)) #[] 0 (e := 50) (size := 2) (Nat.le_refl _) (by decide) rfl
    rw [World.size_alloc] at h
    exact World.ownsRow.drew (own_base h (by show W1.heap.size ≤ W1.heap.size + 1; omega)))
  have HC3 := hd (show ((W1.alloc (Obj.cells #[] 50)).alloc (Obj.cells #[] 60)).drew.ownsRow W1.heap.size 50 2 (.slice (some ⟨W1.heap.size, 0, none⟩) 0 0) 0 [] from World.ownsRow.drew (World.ownsRow.alloc (World.ownsRow_lit W1 #[] 0 (Nat.le_refl _) (by decide) rfl) _))
  clear hs1 hl hg fl fg hB hq hr hi hz0 hz1 hz2 hj hy0 hy1 hy2
  go_enter Tryz.func9, Tryz.ntmps9
  go_wp2_with fail
  rw [← hW1]
  clear hW1
  go_region_held3 (fun x => x.cell? ⟨w.heap.size, 0, none⟩ = some (.string nm) ∧ x.cell? ⟨w.heap.size, 1, none⟩ = some (.int .i64 st) ∧ x.cell? ⟨w.heap.size, 2, none⟩ = some (.slice A bs.length c) ∧ x.cell? ⟨w.heap.size, 3, none⟩ = some (.slice A2 gs.length c2)) (go_keep)
    (first
      | (refine step_append_opt (W1.alloc (Obj.cells #[] 60)).drew (by rfl) (.tmp 7) (.tmp 9) 22 (by rfl) W1.heap.size 60 j0 (.float .f32 0) 1 4 Tryz.underlying22 HJ.out.1 HJ.out.2.1 HJ.out.2.2.1 HJ.out.2.2.2 rfl (by decide) (.slice (some ⟨W1.heap.size, 0, none⟩) 0 0) 0 [] (by rfl) HA1.out A bs.length c (flc bs) (by rfl) (by simp [flc]) HN1.out (HW1.out _ (HB.out.alloc hle _).drew) (one_flc bs) H63.out HBY.out (by simp <;> omega) ?_; intro v4 w4 hown4 hg4; simp only [Nat.zero_add, List.nil_append] at hown4; have hW4 : Below W1.heap.size W1 w4 := ((Below.refl _ W1).alloc (Nat.le_refl _) _).drew.grown hg4 (by simp <;> omega) (fun kk hk => by simp [Value.ownBlock] at hk; omega); obtain ⟨A4, c4, hv4, -⟩ := own_form hown4; subst hv4; have hq4 := (hW4.block _ (blk_lt HQ.out)).trans HQ.out; have N0 := blk_cell hq4 0; have N1 := blk_cell hq4 1; have N2 := blk_cell hq4 2; have N3 := blk_cell hq4 3; simp at N0 N1 N2 N3; have hs4 := hW4.size; have hnC : w4.heap.size ≠ w.heap.size := (by have := HS.out; omega); have hnC' := hnC.symm; have HO4 := hd hown4; have HW4 := hd hW4; clear hown4 hg4 hW4 hq4)
      | (refine step_append_opt ((W1.alloc (Obj.cells #[] 60)).alloc (Obj.cells #[] 50)).drew (by rfl) (.tmp 7) (.tmp 9) 22 (by rfl) W1.heap.size 60 j0 (.float .f32 0) 1 4 Tryz.underlying22 HJ.out.1 HJ.out.2.1 HJ.out.2.2.1 HJ.out.2.2.2 rfl (by decide) (.slice (some ⟨W1.heap.size, 0, none⟩) 0 0) 0 [] (by rfl) HA2.out A bs.length c (flc bs) (by rfl) (by simp [flc]) HN1.out (HW1.out _ ((HB.out.alloc hle _).alloc (by simp <;> omega) _).drew) (one_flc bs) H63.out HBY.out (by simp <;> omega) ?_; intro v4 w4 hown4 hg4; simp only [Nat.zero_add, List.nil_append] at hown4; have hW4 : Below W1.heap.size W1 w4 := (((Below.refl _ W1).alloc (Nat.le_refl _) _).alloc (by simp) _).drew.grown hg4 (by simp <;> omega) (fun kk hk => by simp [Value.ownBlock] at hk; omega); have HR4 := hd (HC2.out.kept hg4 (own_types HC2.out HA2.out (by decide))); obtain ⟨A4, c4, hv4, -⟩ := own_form hown4; subst hv4; have hq4 := (hW4.block _ (blk_lt HQ.out)).trans HQ.out; have N0 := blk_cell hq4 0; have N1 := blk_cell hq4 1; have N2 := blk_cell hq4 2; have N3 := blk_cell hq4 3; simp at N0 N1 N2 N3; have hs4 := hW4.size; have hnC : w4.heap.size ≠ w.heap.size := (by have := HS.out; omega); have hnC' := hnC.symm; have HO4 := hd hown4; have HW4 := hd hW4; clear hown4 hg4 hW4 hq4)
      | (refine step_append_opt ((W1.alloc (Obj.cells #[] 50)).alloc (Obj.cells #[] 60)).drew (by rfl) (.tmp 7) (.tmp 9) 22 (by rfl) W1.heap.size 60 j0 (.float .f32 0) 1 4 Tryz.underlying22 HJ.out.1 HJ.out.2.1 HJ.out.2.2.1 HJ.out.2.2.2 rfl (by decide) (.slice (some ⟨W1.heap.size + 1, 0, none⟩) 0 0) 0 [] (by rfl) HA3.out A bs.length c (flc bs) (by rfl) (by simp [flc]) HN1.out (HW1.out _ ((HB.out.alloc hle _).alloc (by simp <;> omega) _).drew) (one_flc bs) H63.out HBY.out (by simp <;> omega) ?_; intro v4 w4 hown4 hg4; simp only [Nat.zero_add, List.nil_append] at hown4; have hW4 : Below W1.heap.size W1 w4 := (((Below.refl _ W1).alloc (Nat.le_refl _) _).alloc (by simp) _).drew.grown hg4 (by simp <;> omega) (fun kk hk => by simp [Value.ownBlock] at hk; omega); have HR4 := hd (HC3.out.kept hg4 (own_types HC3.out HA3.out (by decide))); obtain ⟨A4, c4, hv4, -⟩ := own_form hown4; subst hv4; have hq4 := (hW4.block _ (blk_lt HQ.out)).trans HQ.out; have N0 := blk_cell hq4 0; have N1 := blk_cell hq4 1; have N2 := blk_cell hq4 2; have N3 := blk_cell hq4 3; simp at N0 N1 N2 N3; have hs4 := hW4.size; have hnC : w4.heap.size ≠ w.heap.size := (by have := HS.out; omega); have hnC' := hnC.symm; have HO4 := hd hown4; have HW4 := hd hW4; clear hown4 hg4 hW4 hq4)
      | (refine step_append_opt (w4.alloc (Obj.cells #[] 50)) (by rfl) (.tmp 11) (.tmp 13) 23 (by rfl) W1.heap.size 50 i0 (.agg #[.int .i64 0, .int .i64 0]) 2 16 Tryz.underlying23 HI.out.1 HI.out.2.1 HI.out.2.2.1 HI.out.2.2.2 rfl (by decide) (.slice (some ⟨w4.heap.size, 0, none⟩) 0 0) 0 [] (by rfl) (show (w4.alloc (Obj.cells #[] 50)).ownsRow W1.heap.size 50 2 (.slice (some ⟨w4.heap.size, 0, none⟩) 0 0) 0 [] from own_base (World.ownsRow_lit w4 #[] 0 (Nat.le_refl _) (by decide) rfl) HW4.out.size) A2 gs.length c2 (spc gs) (by rfl) (by simp [spc_len] <;> omega) HN2.out (HW2.out _ (HB.out.trans ((HW4.out.alloc HW4.out.size _).mono HB.out.size))) (one_spc gs) G63.out GBY.out (by have := HW4.out.size; simp <;> omega) ?_; intro v5 w5 hown5 hg5; simp only [Nat.zero_add, List.nil_append] at hown5; have hW5 : Below W1.heap.size W1 w5 := (HW4.out.alloc HW4.out.size _).grown hg5 (by have := HW4.out.size; simp <;> omega) (fun kk hk => by simp [Value.ownBlock] at hk; have := HW4.out.size; omega); have ho5 := World.ownsRow.kept (World.ownsRow.alloc HO4.out (Obj.cells #[] 50)) hg5 (own_types (World.ownsRow.alloc HO4.out (Obj.cells #[] 50)) (show (w4.alloc (Obj.cells #[] 50)).ownsRow W1.heap.size 50 2 (.slice (some ⟨w4.heap.size, 0, none⟩) 0 0) 0 [] from own_base (World.ownsRow_lit w4 #[] 0 (Nat.le_refl _) (by decide) rfl) HW4.out.size) (by decide)); obtain ⟨A5, c5, hv5, -⟩ := own_form hown5; subst hv5; have hr5 := (hW5.block _ (blk_lt HQ.out)).trans HQ.out; have M0 := blk_cell hr5 0; have M1 := blk_cell hr5 1; have M2 := blk_cell hr5 2; have M3 := blk_cell hr5 3; simp at M0 M1 M2 M3; have hq5 := (hW5.block _ (blk_lt HR.out)).trans HR.out; have p0 := blk_cell hq5 0; have p1 := blk_cell hq5 1; have p2 := blk_cell hq5 2; have p3 := blk_cell hq5 3; simp at p0 p1 p2 p3; have f0 := blk_frozen hq5 0; have f1 := blk_frozen hq5 1; have f2 := blk_frozen hq5 2; have f3 := blk_frozen hq5 3; have HO5 := hd (And.intro ho5 hown5); have HW5 := hd (And.intro hW5 hq5); clear hown5 hg5 hW5 hr5 hq5 ho5)
      | (refine step_append_opt w4 (by rfl) (.tmp 11) (.tmp 13) 23 (by rfl) W1.heap.size 50 i0 (.agg #[.int .i64 0, .int .i64 0]) 2 16 Tryz.underlying23 HI.out.1 HI.out.2.1 HI.out.2.2.1 HI.out.2.2.2 rfl (by decide) (.slice (some ⟨W1.heap.size + 1, 0, none⟩) 0 0) 0 [] (by rfl) HR4.out A2 gs.length c2 (spc gs) (by rfl) (by simp [spc_len] <;> omega) HN2.out (HW2.out _ (HB.out.trans ((HW4.out).mono HB.out.size))) (one_spc gs) G63.out GBY.out (by have := HW4.out.size; simp <;> omega) ?_; intro v5 w5 hown5 hg5; simp only [Nat.zero_add, List.nil_append] at hown5; have hW5 : Below W1.heap.size W1 w5 := (HW4.out).grown hg5 (by have := HW4.out.size; simp <;> omega) (fun kk hk => by simp [Value.ownBlock] at hk; have := HW4.out.size; omega); have ho5 := World.ownsRow.kept HO4.out hg5 (own_types HO4.out HR4.out (by decide)); obtain ⟨A5, c5, hv5, -⟩ := own_form hown5; subst hv5; have hr5 := (hW5.block _ (blk_lt HQ.out)).trans HQ.out; have M0 := blk_cell hr5 0; have M1 := blk_cell hr5 1; have M2 := blk_cell hr5 2; have M3 := blk_cell hr5 3; simp at M0 M1 M2 M3; have hq5 := (hW5.block _ (blk_lt HR.out)).trans HR.out; have p0 := blk_cell hq5 0; have p1 := blk_cell hq5 1; have p2 := blk_cell hq5 2; have p3 := blk_cell hq5 3; simp at p0 p1 p2 p3; have f0 := blk_frozen hq5 0; have f1 := blk_frozen hq5 1; have f2 := blk_frozen hq5 2; have f3 := blk_frozen hq5 3; have HO5 := hd (And.intro ho5 hown5); have HW5 := hd (And.intro hW5 hq5); clear hown5 hg5 hW5 hr5 hq5 ho5)
      | (refine step_append_opt w4 (by rfl) (.tmp 11) (.tmp 13) 23 (by rfl) W1.heap.size 50 i0 (.agg #[.int .i64 0, .int .i64 0]) 2 16 Tryz.underlying23 HI.out.1 HI.out.2.1 HI.out.2.2.1 HI.out.2.2.2 rfl (by decide) (.slice (some ⟨W1.heap.size, 0, none⟩) 0 0) 0 [] (by rfl) HR4.out A2 gs.length c2 (spc gs) (by rfl) (by simp [spc_len] <;> omega) HN2.out (HW2.out _ (HB.out.trans ((HW4.out).mono HB.out.size))) (one_spc gs) G63.out GBY.out (by have := HW4.out.size; simp <;> omega) ?_; intro v5 w5 hown5 hg5; simp only [Nat.zero_add, List.nil_append] at hown5; have hW5 : Below W1.heap.size W1 w5 := (HW4.out).grown hg5 (by have := HW4.out.size; simp <;> omega) (fun kk hk => by simp [Value.ownBlock] at hk; have := HW4.out.size; omega); have ho5 := World.ownsRow.kept HO4.out hg5 (own_types HO4.out HR4.out (by decide)); obtain ⟨A5, c5, hv5, -⟩ := own_form hown5; subst hv5; have hr5 := (hW5.block _ (blk_lt HQ.out)).trans HQ.out; have M0 := blk_cell hr5 0; have M1 := blk_cell hr5 1; have M2 := blk_cell hr5 2; have M3 := blk_cell hr5 3; simp at M0 M1 M2 M3; have hq5 := (hW5.block _ (blk_lt HR.out)).trans HR.out; have p0 := blk_cell hq5 0; have p1 := blk_cell hq5 1; have p2 := blk_cell hq5 2; have p3 := blk_cell hq5 3; simp at p0 p1 p2 p3; have f0 := blk_frozen hq5 0; have f1 := blk_frozen hq5 1; have f2 := blk_frozen hq5 2; have f3 := blk_frozen hq5 3; have HO5 := hd (And.intro ho5 hown5); have HW5 := hd (And.intro hW5 hq5); clear hown5 hg5 hW5 hr5 hq5 ho5))
  all_goals
    have hq := set4_blk HW5.out.2 (.string nm) (.int .i64 st) (.slice A4 bs.length c4) (.slice A5 gs.length c5)
    have z0 := blk_cell hq 0
    have z1 := blk_cell hq 1
    have z2 := blk_cell hq 2
    have z3 := blk_cell hq 3
    simp at z0 z1 z2 z3
    have HL5 := hd (own_base (own_set4 (R := w.heap.size + 1) (a := .string nm) (b := .int .i64 st) (c := .slice A4 bs.length c4) (d := .slice A5 gs.length c5) HO5.out.1 (by have := HS.out; omega)) (show w.heap.size ≤ W1.heap.size from by have := HS.out; omega))
    have HG5 := hd (own_base (own_set4 (R := w.heap.size + 1) (a := .string nm) (b := .int .i64 st) (c := .slice A4 bs.length c4) (d := .slice A5 gs.length c5) HO5.out.2 (by have := HS.out; omega)) (show w.heap.size ≤ W1.heap.size from by have := HS.out; omega))
    have HB5 := hd (set4_below (HB.out.trans (HW5.out.1.mono HB.out.size)) (R := w.heap.size + 1) (by omega) (.string nm) (.int .i64 st) (.slice A4 bs.length c4) (.slice A5 gs.length c5))
    change Exit.then _ _ _ _ (set4 w5 (w.heap.size + 1) (.string nm) (.int .i64 st) (.slice A4 bs.length c4) (.slice A5 gs.length c5))
    generalize set4 w5 (w.heap.size + 1) (.string nm) (.int .i64 st) (.slice A4 bs.length c4) (.slice A5 gs.length c5) = W6 at *
    clear HO5 HW5 HO4 f0 f1 f2 f3 p0 p1 p2 p3 M0 M1 M2 M3 hq
    go_wp2
    exact bodyPost_ret (v := .agg #[.string nm, .int .i64 st, .slice A4 bs.length c4, .slice A5 gs.length c5]) (by simp [results, Tryz.results9, go_sem, z0, z1, z2, z3]) rfl ⟨_, _, rfl, HL5.out, HG5.out, HB5.out⟩
end Go.Proofs.YtkgkpcmokmhakaaGreatDoor

namespace Go.Proofs.YtkgkpcmokmhakaaGreatDoor
open Go.RowKit

set_option maxRecDepth 1000000 in
set_option maxHeartbeats 2000000 in
theorem reasons_ok (nm : ByteArray) (st : Int) (lv gv rv : Value) (bs : List Nat) (gs : List (Int × Int)) (l : List Ru) (w : World) (hl : Rd w w.heap.size lv bs.length (flc bs)) (hg : Rd w w.heap.size gv gs.length (spc gs)) (hr : Rd w w.heap.size rv l.length (ruc l)) (V : Valid nm st bs gs) (h0 : chkRules l = 0) :
    Calls Tryz.prog 11 #[.agg #[.string nm, .int .i64 st, lv, gv], rv] w fun e w' => ∃ xv, e = .returned (.tuple #[xv, .int .i64 0]) ∧ w'.ownsRow w.heap.size 3 1 xv (apF bs gs l l.length).2.2.length ((apF bs gs l l.length).2.2.map (Value.int .i64)) ∧ Below w.heap.size w w' := by
  have HL := hd hl
  have HG := hd hg
  have HR := hd hr
  have hl2 := hl
  have hg2 := hg
  have hr2 := hr
  obtain ⟨A1, c1, rfl, -, -, -⟩ := hl2
  obtain ⟨A2, c2, rfl, -, -, -⟩ := hg2
  obtain ⟨A3, c3, rfl, -, -, -⟩ := hr2
  have HV := hd (And.intro V h0)
  clear hl hg hr V h0
  go_enter Tryz.func11, Tryz.ntmps11
  go_wp2_with fail
  have hb0 : Below w.heap.size w (w.alloc (Obj.cells #[.string nm, .int .i64 st, .slice A1 bs.length c1, .slice A2 gs.length c2] 35)) := (Below.refl _ w).alloc (Nat.le_refl _) _
  refine (apply_ok nm st _ _ _ bs gs l _ ((HL.out.below hb0 (Nat.le_refl _)).mono hb0.size) ((HG.out.below hb0 (Nat.le_refl _)).mono hb0.size) ((HR.out.below hb0 (Nat.le_refl _)).mono hb0.size) HV.out.1 HV.out.2).mono ?_
  rintro e w1 ⟨lv, gv, xv, rfl, hol, hog, hox, hb1⟩
  obtain ⟨A4, c4, hv4, -⟩ := own_form hol
  obtain ⟨A5, c5, hv5, -⟩ := own_form hog
  obtain ⟨A6, c6, hv6, -⟩ := own_form hox
  subst hv4
  subst hv5
  subst hv6
  have hB := hb0.trans (hb1.mono hb0.size)
  have HX := hd (fun o => own_base (hox.alloc o) hb0.size)
  have HB := hd (fun o => hB.alloc hB.size o)
  clear hol hog hox hb0 hb1 hB
  go_wp2
  go_returns
  exact ⟨_, rfl, HX.out _, HB.out _⟩

set_option maxRecDepth 1000000 in
set_option maxHeartbeats 2000000 in
theorem clean_ok (nm : ByteArray) (st : Int) (lv gv rv : Value) (bs : List Nat) (gs : List (Int × Int)) (l : List Ru) (w : World) (hl : Rd w w.heap.size lv bs.length (flc bs)) (hg : Rd w w.heap.size gv gs.length (spc gs)) (hr : Rd w w.heap.size rv l.length (ruc l)) (V : Valid nm st bs gs) (h0 : chkRules l = 0) :
    Calls Tryz.prog 8 #[.agg #[.string nm, .int .i64 st, lv, gv], rv] w fun e w' => ∃ lv gv, e = .returned (.tuple #[.agg #[.string nm, .int .i64 st, lv, gv], .int .i64 0]) ∧ w'.ownsRow w.heap.size 60 1 lv (apF bs gs l l.length).1.length (flc (apF bs gs l l.length).1) ∧ w'.ownsRow w.heap.size 50 2 gv (apF bs gs l l.length).2.1.length (spc (apF bs gs l l.length).2.1) ∧ Below w.heap.size w w' := by
  have HL := hd hl
  have HG := hd hg
  have HR := hd hr
  have hl2 := hl
  have hg2 := hg
  have hr2 := hr
  obtain ⟨A1, c1, rfl, -, -, -⟩ := hl2
  obtain ⟨A2, c2, rfl, -, -, -⟩ := hg2
  obtain ⟨A3, c3, rfl, -, -, -⟩ := hr2
  have HV := hd (And.intro V h0)
  clear hl hg hr V h0
  go_enter Tryz.func8, Tryz.ntmps8
  go_wp2_with fail
  obtain ⟨W0, hW0⟩ : ∃ W0, W0 = ((w.alloc (.cells #[.string nm, .int .i64 st, .slice A1 bs.length c1, .slice A2 gs.length c2] 35)).alloc (.cells #[.string ⟨#[]⟩, .int .i64 0, .slice none 0 0, .slice none 0 0] 35)) := ⟨_, rfl⟩
  have hsz : W0.heap.size = w.heap.size + 2 := by rw [hW0]; simp
  have hb0 : Below w.heap.size w W0 := by rw [hW0]; exact ((Below.refl _ w).alloc (Nat.le_refl _) _).alloc (by simp) _
  have HRB := hd (show W0.heap[w.heap.size + 1]? = some (.cells #[.string ⟨#[]⟩, .int .i64 0, .slice none 0 0, .slice none 0 0] 35 (0, 0)) by
    have h1 := blk_new (w.alloc (.cells #[.string nm, .int .i64 st, .slice A1 bs.length c1, .slice A2 gs.length c2] 35)) #[.string ⟨#[]⟩, .int .i64 0, .slice none 0 0, .slice none 0 0] 35
    simp only [World.size_alloc] at h1
    rw [hW0]; exact h1)
  rw [← hW0]
  clear hW0
  refine (apply_ok nm st _ _ _ bs gs l _ ((HL.out.below hb0 (Nat.le_refl _)).mono hb0.size) ((HG.out.below hb0 (Nat.le_refl _)).mono hb0.size) ((HR.out.below hb0 (Nat.le_refl _)).mono hb0.size) HV.out.1 HV.out.2).mono ?_
  rintro e w1 ⟨lv, gv, xv, rfl, hol, hog, hox, hb1⟩
  obtain ⟨A4, c4, hv4, -⟩ := own_form hol
  obtain ⟨A5, c5, hv5, -⟩ := own_form hog
  obtain ⟨A6, c6, hv6, -⟩ := own_form hox
  have hs1 := hb1.size
  have hL0 := blk_new w1 #[.string nm, .int .i64 st, lv, gv] 35
  obtain ⟨w2, hw2⟩ : ∃ w2, w2 = w1.alloc (.cells #[.string nm, .int .i64 st, lv, gv] 35) := ⟨_, rfl⟩
  have hb2 : Below W0.heap.size W0 w2 := by rw [hw2]; exact hb1.alloc hs1 _
  have hl2 := hol.alloc (.cells #[.string nm, .int .i64 st, lv, gv] 35)
  have hg2 := hog.alloc (.cells #[.string nm, .int .i64 st, lv, gv] 35)
  rw [← hw2] at hL0 hl2 hg2
  have hB := hb0.trans (hb2.mono hb0.size)
  have hR3 := (hb2.block _ (show w.heap.size + 1 < W0.heap.size by omega)).trans HRB.out
  have x0 := blk_cell hR3 0
  have x1 := blk_cell hR3 1
  have x2 := blk_cell hR3 2
  have x3 := blk_cell hR3 3
  have xf := fun i => blk_frozen hR3 i
  have q0 := blk_cell hL0 0
  have q1 := blk_cell hL0 1
  have q2 := blk_cell hL0 2
  have q3 := blk_cell hL0 3
  simp at x0 x1 x2 x3 q0 q1 q2 q3
  have hq : w.heap.size + 1 < W0.heap.size := by omega
  have hp : w.heap.size ≤ w.heap.size + 1 := by omega
  have k7 : ∀ {e : TypeId} {size : Nat} {v : Value} {n : Nat} {xs : List Value}, w2.ownsRow W0.heap.size e size v n xs → ((((w2.setCell ⟨w.heap.size + 1, 0, none⟩ (.string nm)).setCell ⟨w.heap.size + 1, 1, none⟩ (.int .i64 st)).setCell ⟨w.heap.size + 1, 2, none⟩ lv).setCell ⟨w.heap.size + 1, 3, none⟩ gv).ownsRow w.heap.size e size v n xs := fun ho =>
    own_base (ownsRow_setCell_below (ownsRow_setCell_below (ownsRow_setCell_below (ownsRow_setCell_below ho (a := ⟨w.heap.size + 1, 0, none⟩) hq (.string nm)) (a := ⟨w.heap.size + 1, 1, none⟩) hq (.int .i64 st)) (a := ⟨w.heap.size + 1, 2, none⟩) hq lv) (a := ⟨w.heap.size + 1, 3, none⟩) hq gv) (by omega)
  have R7 := blk_set (blk_set (blk_set (blk_set hR3 0 (.string nm)) 1 (.int .i64 st)) 2 lv) 3 gv
  have z := fun i => blk_cell R7 i
  have z0 := z 0
  have z1 := z 1
  have z2 := z 2
  have z3 := z 3
  simp at z0 z1 z2 z3
  have B7 := (((hB.setCell (p := ⟨w.heap.size + 1, 0, none⟩) hp (.string nm)).setCell (p := ⟨w.heap.size + 1, 1, none⟩) hp (.int .i64 st)).setCell (p := ⟨w.heap.size + 1, 2, none⟩) hp lv).setCell (p := ⟨w.heap.size + 1, 3, none⟩) hp gv
  have L7 := k7 hl2
  have G7 := k7 hg2
  obtain ⟨W7, hW7⟩ : ∃ W7, W7 = (((w2.setCell ⟨w.heap.size + 1, 0, none⟩ (.string nm)).setCell ⟨w.heap.size + 1, 1, none⟩ (.int .i64 st)).setCell ⟨w.heap.size + 1, 2, none⟩ lv).setCell ⟨w.heap.size + 1, 3, none⟩ gv := ⟨_, rfl⟩
  rw [← hW7] at z0 z1 z2 z3 L7 G7 B7
  have HX7 := hd (And.intro L7 (And.intro G7 B7))
  have HZ := hd (And.intro z0 (And.intro z1 (And.intro z2 z3)))
  rw [hw2] at hW7 x0 x1 x2 x3 xf q0 q1 q2 q3
  have HW7 := hd hW7
  clear hR3 R7 z z0 z1 z2 z3 L7 G7 B7 hW7 hl2 hg2 hL0 hol hog hox hb1 hB k7 hw2 hb2
  subst hv4
  subst hv5
  subst hv6
  go_wp2
  rw [← HW7.out]
  obtain ⟨z0, z1, z2, z3⟩ := HZ.out
  exact bodyPost_ret (v := .tuple #[.agg #[.string nm, .int .i64 st, .slice A4 (apF bs gs l l.length).1.length c4, .slice A5 (apF bs gs l l.length).2.1.length c5], .int .i64 0]) (by simp [results, Tryz.results8, go_sem, z0, z1, z2, z3]) rfl ⟨_, _, rfl, HX7.out.1, HX7.out.2.1, HX7.out.2.2⟩

end Go.Proofs.YtkgkpcmokmhakaaGreatDoor

namespace Go.Proofs.YtkgkpcmokmhakaaGreatDoor
open Go.RowKit

def hkL : List Nat := [1065353216, 1065353216, 1065353216, 1084227584, 1069547520, 0, 1073741824]
def hkG : List (Int × Int) := [(5, 6)]
end Go.Proofs.YtkgkpcmokmhakaaGreatDoor
