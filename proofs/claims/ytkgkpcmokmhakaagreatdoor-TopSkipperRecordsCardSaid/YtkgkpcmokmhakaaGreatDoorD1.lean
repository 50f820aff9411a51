/-
  gauge.readRecord over the lines of a text. Conditions: at most 80000 bytes, of which there is one.
  A text that is read by both, and what the statements tell of it. Conditions: written at each.
  gauge.Parse: every text. Condition: at most 80000 bytes.
  Plain words: cutting at a byte undoes joining with it; decimal numerals are the words that are numbers. No program.
  Plain words on votes: the project's vote of what is recorded at an index is the reference's; sixteenths as levels. No program.
-/
import Derived.Test.YtkgkpcmokmhakaaGreatDoorProg
import Derived.Test.YtkgkpcmokmhakaaGreatDoorY7
import Derived.Test.YtkgkpcmokmhakaaGreatDoorYI
import Derived.Test.YtkgkpcmokmhakaaGreatDoorET
import Derived.Test.YtkgkpcmokmhakaaGreatDoorT7
import Derived.Test.YtkgkpcmokmhakaaGreatDoorMR
import Derived.Laws.Cover2
import Derived.Laws.FloatArith

namespace Go.Proofs.YtkgkpcmokmhakaaGreatDoor
open Go.RowKit
attribute [local go_sem] Oper.semAt_some

theorem rl_form (ng : Bool) (l : List ByteArray) : ∃ x b k, rlR ng l = .tuple #[.float .f32 x, .bool b, .bool k] := by
  unfold rlR
  split
  · split
    · exact ⟨_, _, _, rfl⟩
    · exact ⟨_, _, _, rfl⟩
  · exact ⟨_, _, _, rfl⟩
theorem tup3_inj {x x' : Nat} {b b' k k' : Bool} (h : Value.tuple #[.float .f32 x, .bool b, .bool k] = .tuple #[.float .f32 x', .bool b', .bool k']) : x = x' ∧ b = b' ∧ k = k' := by
  injection h with h
  have h1 := congrArg Array.toList h
  simp at h1
  exact h1
/-- What the program's lines give, of a text: the zero record and the line at fault, or the record. -/
def Mid (s : ByteArray) (N : Nat) (w : World) (e : Ending) (w' : World) : Prop := Below w.heap.size w w' ∧
  ((synB s = true ∧ txtAt s < N ∧ e = .returned (.tuple #[.agg #[.string ⟨#[]⟩, .int .i64 0, .slice none 0 0, .slice none 0 0], .int .i64 (txtAt s : Int)])) ∨
   (synB s = false ∧ N = (tL s).length ∧ ∃ LV GV, e = .returned (.tuple #[.agg #[.string (tNm s), .int .i64 (tSt s), LV, GV], .int .i64 (N : Int)]) ∧ w'.ownsRow w.heap.size 60 1 LV (tBs s).length (flc (tBs s)) ∧ w'.ownsRow w.heap.size 50 2 GV (tGs s).length (spc (tGs s))))
theorem lf_size (t : ByteArray) : (t ++ (⟨#[10]⟩ : ByteArray)).size = t.size + 1 := by simp; rfl
theorem getD_map_b {α : Type} (l : List ByteArray) (f : ByteArray → α) (d : α) (i : Nat) (h : i < l.length) : (l.map f).getD i d = f (l.getD i ⟨#[]⟩) := by
  simp [h]
theorem txtE_syn {s : ByteArray} (h : synB s = true) : txtE s = 26 := if_pos h
theorem txtAt_no {s : ByteArray} (h : hedB s = false) : synB s = true ∧ txtAt s = 0 := by
  have h1 : synB s = true := by unfold synB; rw [h]; rfl
  refine ⟨h1, ?_⟩
  unfold txtAt
  rw [if_pos h1, h]; rfl
theorem txtAt_bad {s : ByteArray} (h : hedB s = true) (h1 : fbd (tT s) < (tT s).length ∨ (tE s).size ≠ 0) : synB s = true ∧ txtAt s = 1 + fbd (tT s) := by
  have h2 : synB s = true := by
    unfold synB
    rw [h]
    rcases h1 with h1 | h1
    · simp [h1]
    · simp [h1]
  refine ⟨h2, ?_⟩
  unfold txtAt
  rw [if_pos h2, h]; rfl
theorem syn_no {s : ByteArray} (h : hedB s = true) (h1 : fbd (tT s) = (tT s).length) (h2 : (tE s).size = 0) : synB s = false := by
  unfold synB
  rw [h, h1, h2]
  simp
set_option maxRecDepth 1000000 in
set_option maxHeartbeats 4000000 in
theorem readRec_txt (s : ByteArray) (g : Nat) (m : Int) (w : World) (hs : s.size ≤ 80000) (h0 : s.size ≠ 0) (hm : w.cell? ⟨2, 0, none⟩ = some (.int .i64 m)) (T : TypeId)
    (HB : Hid (w.heap[g]? = some (.cells (stc1 ((tL s).map (· ++ ⟨#[10]⟩) ++ [tE s])).toArray T (0, 0)))) :
    Calls Tryz.prog 42 #[.slice (some ⟨g, 0, none⟩) (lns (tL s) (tE s)).length ((tL s).length + 1)] w (Mid s (lns (tL s) (tE s)).length w) := by
  have hM : ∀ W, Below w.heap.size w W → W.cell? ⟨2, 0, none⟩ = some (.int .i64 m) := fun W hW => (hW.cell (p := ⟨2, 0, none⟩) (World.block_lt_of_cell? _ _ hm)).trans hm
  have hg := blk_lt HB.out
  have htl := tL_len s
  obtain ⟨fx, hf1⟩ := Classical.axiomOfChoice (fun y : ByteArray => rl_form (lfN y) (spl (lfB y) 32))
  obtain ⟨fb, hf2⟩ := Classical.axiomOfChoice hf1
  obtain ⟨fk, hf⟩ := Classical.axiomOfChoice hf2
  have hRL : ∀ (TT : List ByteArray), (∀ y ∈ TT, y.size ≤ 90000) → ∀ i W, i < TT.length → Below w.heap.size w W → Calls Tryz.prog 80 #[.string (TT.getD i ⟨#[]⟩)] W fun e w' => e = .returned (.tuple #[.float .f32 ((TT.map fx).getD i 0), .bool ((TT.map fb).getD i false), .bool ((TT.map fk).getD i false)]) ∧ Below W.heap.size W w' := fun TT hy i W hi hW => by
    rw [getD_map_b _ _ _ i hi, getD_map_b _ _ _ i hi, getD_map_b _ _ _ i hi, ← hf]
    refine readLevel_any _ m W (hy _ ?_) (hM W hW) (quo_told _)
    rw [List.getD_eq_getElem?_getD, List.getElem?_eq_getElem hi]
    exact List.getElem_mem hi
  have hcl : ∀ (LN R : List ByteArray), (tL s).map (· ++ ⟨#[10]⟩) ++ [tE s] = LN ++ R → ∀ j u, (stc1 LN)[j]? = some u → w.cell? ⟨g, 0 + j, none⟩ = some u := fun LN R e j u hu => by
    have h1 := blk_cell HB.out j
    rw [e] at h1
    rw [Nat.zero_add, h1]
    have hj : j < (stc1 LN).length := (List.getElem?_eq_some_iff.1 hu).1
    unfold stc1 at hu hj ⊢
    rw [List.map_append]
    simp only [List.getElem?_toArray]
    rw [List.getElem?_append_left hj, hu]
  cases hL : tL s with
  | nil =>
    have hne : (tE s).size ≠ 0 := fun e => by
      have h1 : frm s 10 s.size = 0 := prt_nil s 10 s.size hL
      unfold tE at e
      rw [h1] at e
      simp at e
      exact h0 (by rw [e]; rfl)
    have hh : hedB s = false := by unfold hedB; rw [hL]; rfl
    have hlns : lns ([] : List ByteArray) (tE s) = [tE s] := by unfold lns; rw [if_neg hne]; rfl
    rw [hlns]
    have hz := tE_size s
    refine (readRecord_any ((spl (lfB (tE s)) 32).getD 1 ⟨#[]⟩) _ false (tE s) [] [] [] [] g 0 1 w rfl rfl (by simp) (by omega) (by simp) hg (hd (hcl [tE s] [] (by rw [hL]; simp))) (hd fun W hW => by
      have h := readHeading_any (tE s) m W (by omega) (hM W hW)
      rw [tE_nolf] at h
      exact h) (hd (hRL [] (by simp)))).mono ?_
    obtain ⟨s1, s2⟩ := txtAt_no hh
    rintro e w' ⟨hb, ⟨-, rfl⟩ | ⟨h, -⟩ | ⟨h, -⟩⟩
    · exact ⟨hb, .inl ⟨s1, by rw [s2]; simp, by rw [s2]; rfl⟩⟩
    · cases h
    · cases h
  | cons l0 L' =>
    have hT : tT s = L' := by unfold tT; rw [hL]; rfl
    have hH : tHd s = l0 := by unfold tHd; rw [hL]; rfl
    have hB : hedB s = hdOk l0 := by unfold hedB; rw [hH, hL]; simp
    have hlen : L'.length + 1 ≤ s.size := by rw [hL] at htl; simpa using htl
    obtain ⟨TT, hTT⟩ : ∃ TT, TT = L'.map (· ++ (⟨#[10]⟩ : ByteArray)) ++ (if (tE s).size = 0 then [] else [tE s]) := ⟨_, rfl⟩
    have hlns : lns (l0 :: L') (tE s) = (l0 ++ ⟨#[10]⟩) :: TT := by rw [hTT]; unfold lns; simp
    have hsz : ∀ y ∈ (l0 ++ ⟨#[10]⟩) :: TT, y.size ≤ 90000 := fun y hy => by
      have hm0 := tL_mem s
      rw [hL] at hm0
      rcases List.mem_cons.1 hy with rfl | hy
      · rw [lf_size]; have := hm0 l0 (by simp); omega
      · rw [hTT] at hy
        rcases List.mem_append.1 hy with hy | hy
        · obtain ⟨z, hz, rfl⟩ := List.mem_map.1 hy
          rw [lf_size]; have := hm0 z (by simp [hz]); omega
        · split at hy
          · cases hy
          · simp at hy; rw [hy]; have := tE_size s; omega
    have hTl : TT.length ≤ L'.length + 1 := by rw [hTT]; split <;> simp
    have hk1 : ∀ i, i < L'.length → TT.getD i ⟨#[]⟩ = L'.getD i ⟨#[]⟩ ++ ⟨#[10]⟩ := fun i hi => by
      rw [hTT, List.getD_eq_getElem?_getD, List.getElem?_append_left (by simpa using hi)]
      simp [hi]
    have hlt : L'.length ≤ TT.length := by rw [hTT]; simp
    have hfl : ∀ i, i < L'.length → fk (TT.getD i ⟨#[]⟩) = lvOk (L'.getD i ⟨#[]⟩) ∧ (lvOk (L'.getD i ⟨#[]⟩) = true → fx (TT.getD i ⟨#[]⟩) = lvX (L'.getD i ⟨#[]⟩) ∧ fb (TT.getD i ⟨#[]⟩) = (sgnB (L'.getD i ⟨#[]⟩)).isSome) := fun i hi => by
      have h1 := hf (TT.getD i ⟨#[]⟩)
      rw [hk1 i hi, (lf_app _).1, (lf_app _).2] at h1
      rw [hk1 i hi]
      cases hk : lvOk (L'.getD i ⟨#[]⟩)
      · obtain ⟨x, b, h2⟩ := rl_no hk
        rw [h2] at h1
        exact ⟨(tup3_inj h1).2.2.symm, fun h => by cases h⟩
      · rw [rl_ok hk] at h1
        obtain ⟨a1, a2, a3⟩ := tup3_inj h1
        exact ⟨a3.symm, fun _ => ⟨a1.symm, a2.symm⟩⟩
    have hlast : L'.length < TT.length → (tE s).size ≠ 0 ∧ fk (TT.getD L'.length ⟨#[]⟩) = false := fun h => by
      by_cases h3 : (tE s).size = 0
      · rw [if_pos h3] at hTT; rw [hTT] at h; simp at h
      · refine ⟨h3, ?_⟩
        rw [if_neg h3] at hTT
        have h4 : TT.getD L'.length ⟨#[]⟩ = tE s := by rw [hTT, List.getD_eq_getElem?_getD, List.getElem?_append_right (by simp)]; simp
        have h1 := hf (tE s)
        rw [tE_nolf, rl_nolf] at h1
        rw [h4]
        exact (tup3_inj h1).2.2.symm
    rw [hlns]
    refine (readRecord_any ((spl l0 32).getD 1 ⟨#[]⟩) (((numB ((spl l0 32).getD 2 ⟨#[]⟩)).getD 0 : Nat) : Int) (hdOk l0) (l0 ++ ⟨#[10]⟩) TT (TT.map fx) (TT.map fb) (TT.map fk) g 0 ((l0 :: L').length + 1) w (by simp) (by simp) (by simp; omega) (by simp; omega) (by omega) hg (hd (hcl _ (if (tE s).size = 0 then [tE s] else []) (by
      rw [hL, hTT]
      split <;> simp))) (hd fun W hW => by
      have h := readHeading_any (l0 ++ ⟨#[10]⟩) m W (hsz _ (by simp)) (hM W hW)
      rw [(lf_app l0).1, (lf_app l0).2, Bool.true_and] at h
      exact h) (hd (hRL TT (fun y hy => hsz y (List.mem_cons_of_mem _ hy))))).mono ?_
    rintro e w' ⟨hb, ⟨h1, rfl⟩ | ⟨h1, k, hk, hk1', hk2, rfl⟩ | ⟨h1, hall, LV, GV, rfl, hl, hg'⟩⟩
    · obtain ⟨s1, s2⟩ := txtAt_no (hB.trans h1)
      exact ⟨hb, .inl ⟨s1, by rw [s2]; simp, by rw [s2]; rfl⟩⟩
    · have hkk : fbd L' = k ∧ (fbd L' < L'.length ∨ (tE s).size ≠ 0) := by
        rw [getD_map_b _ _ _ k hk] at hk2
        have hk3 : ∀ i, i < k → i < L'.length → lvOk (L'.getD i ⟨#[]⟩) = true := fun i hi hi2 => by
          have h := hk1' i hi
          rw [getD_map_b _ _ _ i (by omega), (hfl i hi2).1] at h
          exact h
        by_cases hkl : k < L'.length
        · rw [(hfl k hkl).1] at hk2
          have e1 := fbd_is hkl (fun i hi => hk3 i hi (by omega)) hk2
          exact ⟨e1, .inl (by omega)⟩
        · have e1 := fbd_all (T := L') (fun i hi => hk3 i (by omega) hi)
          exact ⟨by omega, .inr (hlast (by omega)).1⟩
      obtain ⟨s1, s2⟩ := txtAt_bad (hB.trans h1) (by rw [hT]; exact hkk.2)
      rw [hT, hkk.1] at s2
      exact ⟨hb, .inl ⟨s1, by rw [s2]; simp; omega, by rw [s2, Nat.add_comm]⟩⟩
    · have hle : TT.length = L'.length := by
        rcases Nat.lt_or_ge L'.length TT.length with h | h
        · have h2 := hall L'.length h
          rw [getD_map_b _ _ _ _ h, (hlast h).2] at h2
          cases h2
        · omega
      have hz : (tE s).size = 0 := by
        by_cases h3 : (tE s).size = 0
        · exact h3
        · rw [if_neg h3] at hTT; rw [hTT] at hle; simp at hle
      have hok : ∀ i, i < L'.length → lvOk (L'.getD i ⟨#[]⟩) = true := fun i hi => by
        have h := hall i (by omega)
        rw [getD_map_b _ _ _ i (by omega), (hfl i hi).1] at h
        exact h
      have e1 : TT.map fx = bsT L' := by
        apply ext_getD _ _ 0
        · simp [bsT, hle]
        · intro j hj
          have hj : j < L'.length := by rw [← hle]; simpa using hj
          rw [getD_map_b _ _ _ j (by omega), ((hfl j hj).2 (hok j hj)).1]
          simp [bsT, hj]
      have e2 : TT.map fb = msT L' := by
        apply ext_getD _ _ false
        · simp [msT, hle]
        · intro j hj
          have hj : j < L'.length := by rw [← hle]; simpa using hj
          rw [getD_map_b _ _ _ j (by omega), ((hfl j hj).2 (hok j hj)).2]
          simp [msT, hj]
      have hsn : synB s = false := syn_no (hB.trans h1) (by rw [hT]; exact fbd_all hok) hz
      have eN : tNm s = (spl l0 32).getD 1 ⟨#[]⟩ := by unfold tNm; rw [hH]
      have eS : tSt s = (((numB ((spl l0 32).getD 2 ⟨#[]⟩)).getD 0 : Nat) : Int) := by unfold tSt; rw [hH]
      have eB : tBs s = asmK (TT.map fx) (TT.map fb) TT.length := by unfold tBs; rw [hT, e1, e2, hle]
      have eG : tGs s = strF ((TT.map fb).map (!·)) TT.length := by unfold tGs; rw [hT, e2, hle]
      refine ⟨hb, .inr ⟨hsn, by rw [hL]; simp [hle], LV, GV, by rw [eN, eS]; simp, ?_, ?_⟩⟩
      · rw [eB, asmK_len, List.length_map]; exact hl
      · rw [eG]; exact hg'
end Go.Proofs.YtkgkpcmokmhakaaGreatDoor

namespace Go.Proofs.YtkgkpcmokmhakaaGreatDoor
open Go.RowKit
attribute [local go_sem] Oper.semAt_some

/-- The same, and the levels' row is nil or has an address. -/
def TxtdF (s : ByteArray) (w : World) (e : Ending) (w' : World) : Prop := Below w.heap.size w w' ∧
  ((txtE s = 0 ∧ ∃ LV GV, e = .returned (.tuple #[.agg #[.string (tNm s), .int .i64 (tSt s), LV, GV], .int .i64 0, .int .i64 0]) ∧ Rd w' w'.heap.size LV (tBs s).length (flc (tBs s)) ∧ Rd w' w'.heap.size GV (tGs s).length (spc (tGs s)) ∧ Full LV) ∨
   (txtE s ≠ 0 ∧ e = .returned (.tuple #[.agg #[.string ⟨#[]⟩, .int .i64 0, .slice none 0 0, .slice none 0 0], .int .i64 (txtAt s : Int), .int .i64 (txtE s)])))
theorem tNm_size (s : ByteArray) : (tNm s).size ≤ s.size := by
  unfold tNm
  refine Nat.le_trans (getD_le _ 32 1) ?_
  unfold tHd
  cases h : tL s with
  | nil => exact Nat.zero_le _
  | cons x l => exact tL_mem s x (by rw [h]; simp)
end Go.Proofs.YtkgkpcmokmhakaaGreatDoor

namespace Go.Proofs.YtkgkpcmokmhakaaGreatDoor
open Go.RowKit
attribute [local go_sem] Oper.semAt_some

theorem txtd_bad {s : ByteArray} {w w' : World} {E : Int} {a : Int} (hb : Below w.heap.size w w') (h0 : E ≠ 0) (hE : txtE s = E) (ha : ((txtAt s : Nat) : Int) = a) : TxtdF s w (.returned (.tuple #[.agg #[.string ⟨#[]⟩, .int .i64 0, .slice none 0 0, .slice none 0 0], .int .i64 a, .int .i64 E])) w' :=
  ⟨hb, .inr ⟨by rw [hE]; exact h0, by rw [hE, ha]⟩⟩
theorem txt_nil {s : ByteArray} (h : s.size = 0) : txtE s = 26 ∧ txtAt s = 0 := by
  have hl := tL_len s
  have h1 : tL s = [] := List.eq_nil_of_length_eq_zero (by omega)
  have hh : hedB s = false := by unfold hedB; rw [h1]; rfl
  exact ⟨txtE_syn (txtAt_no hh).1, (txtAt_no hh).2⟩
set_option maxRecDepth 1000000 in
set_option maxHeartbeats 8000000 in
theorem gParse_anyF (s : ByteArray) (m : Int) (w : World) (hs : s.size ≤ 80000) (hm : w.cell? ⟨2, 0, none⟩ = some (.int .i64 m)) :
    Calls Tryz.prog 15 #[.string s] w (TxtdF s w) := by
  have hsl : (s.size : Int) ≤ 1000000 := by omega
  obtain ⟨W0, hW0⟩ : ∃ W0, W0 = w.alloc (.cells #[.string ⟨#[]⟩, .int .i64 0, .slice none 0 0, .slice none 0 0] 35) := ⟨_, rfl⟩
  have HR := hd (show W0.heap[w.heap.size]? = some (.cells #[.string ⟨#[]⟩, .int .i64 0, .slice none 0 0, .slice none 0 0] 35 (0, 0)) by rw [hW0]; exact blk_new _ _ _)
  have HB := hd (show Below w.heap.size w W0 by rw [hW0]; exact (Below.refl _ w).alloc (Nat.le_refl _) _)
  have HM := hd (show ∀ W, Below w.heap.size w W → W.cell? ⟨2, 0, none⟩ = some (.int .i64 m) from fun W hW => (hW.cell (p := ⟨2, 0, none⟩) (World.block_lt_of_cell? _ _ hm)).trans hm)
  have hsl2 : s.data.toList.length = s.size := by simp
  by_cases h0 : s.size = 0
  · have HZ := hd (txt_nil h0)
    have e0 : s.toList = [] := by rw [ByteArray.toList_eq]; exact List.eq_nil_of_length_eq_zero (by omega)
    have hf := hd (show fst0 [unl true 27, unl false 26] = 26 from rfl)
    clear hsl2 hs hm h0
    go_enter Tryz.func15, Tryz.ntmps15
    go_wp2_with fail
    rw [← hW0]
    clear hW0
    refine (unl_any _ _ _).mono ?_
    rintro e wa ⟨rfl, rfl⟩
    go_wp2_with fail
    refine (unl_any _ _ _).mono ?_
    rintro e wb ⟨rfl, rfl⟩
    go_wp2_with fail
    refine (first2 _ _ _ _).mono ?_
    rintro e w1 ⟨rfl, hw1⟩
    rw [hf.out]
    have hb1 : Below W0.heap.size W0 w1 := by rw [← hw1]; exact (Below.refl _ W0).alloc (Nat.le_refl _) _
    have HR1 := hd ((hb1.block _ (blk_lt HR.out)).trans HR.out)
    have HB1 := hd (HB.out.trans (hb1.mono HB.out.size))
    clear hw1 hb1
    have r0 := blk_cell HR1.out 0
    have r1 := blk_cell HR1.out 1
    have r2 := blk_cell HR1.out 2
    have r3 := blk_cell HR1.out 3
    have y0 := blk_frozen HR1.out 0
    have y1 := blk_frozen HR1.out 1
    have y2 := blk_frozen HR1.out 2
    have y3 := blk_frozen HR1.out 3
    simp at r0 r1 r2 r3
    go_wp2_with fail
    have hq := set4S_blk HR1.out (.string ⟨#[]⟩) (.int .i64 0) (.slice none 0 0) (.slice none 0 0)
    have z0 := blk_cell hq 0
    have z1 := blk_cell hq 1
    have z2 := blk_cell hq 2
    have z3 := blk_cell hq 3
    simp at z0 z1 z2 z3
    have HB5 := hd (set4S_below HB1.out (Nat.le_refl _) (.string ⟨#[]⟩) (.int .i64 0) (.slice none 0 0) (.slice none 0 0))
    change bodyPost _ _ _ _ _ (set4S w1 w.heap.size (.string ⟨#[]⟩) (.int .i64 0) (.slice none 0 0) (.slice none 0 0))
    generalize set4S w1 w.heap.size (.string ⟨#[]⟩) (.int .i64 0) (.slice none 0 0) (.slice none 0 0) = W6 at *
    clear hq r0 r1 r2 r3 y0 y1 y2 y3
    exact bodyPost_ret (v := .tuple #[.agg #[.string ⟨#[]⟩, .int .i64 0, .slice none 0 0, .slice none 0 0], .int .i64 0, .int .i64 26]) (by simp [results, Tryz.results15, go_sem, z0, z1, z2, z3]) rfl (txtd_bad HB5.out (by decide) HZ.out.1 (by rw [HZ.out.2]; rfl))
  · have e0 : s.toList.isEmpty = false := by
      rw [ByteArray.toList_eq]
      cases hl : s.data.toList with
      | nil => rw [hl] at hsl2; simp at hsl2; omega
      | cons => rfl
    have e1 : (s.toList == []) = false := by
      rw [beq_eq_false_iff_ne]; intro e; rw [e] at e0; cases e0
    have hf := hd (show fst0 [unl true 27, unl true 26] = 0 from rfl)
    have HLI := hd (fun W hW => lines_any s (tL s) (tE s) m W (by omega) hW (spa_is s))
    have HRR := hd (fun g W hW T hB => readRec_txt s g m W hs h0 hW T hB)
    have hnz := hd (tNm_size s)
    have HSZ := hd hs
    clear hsl2 hs hm h0
    generalize hN : (lns (tL s) (tE s)).length = N at *
    go_enter Tryz.func15, Tryz.ntmps15
    go_wp2_with fail
    rw [← hW0]
    clear hW0
    refine (unl_any _ _ _).mono ?_
    rintro e wa ⟨rfl, rfl⟩
    go_wp2_with fail
    refine (unl_any _ _ _).mono ?_
    rintro e wb ⟨rfl, rfl⟩
    go_wp2_with fail
    refine (first2 _ _ _ _).mono ?_
    rintro e w1 ⟨rfl, hw1⟩
    rw [hf.out]
    have hb1 : Below W0.heap.size W0 w1 := by rw [← hw1]; exact (Below.refl _ W0).alloc (Nat.le_refl _) _
    have HR1 := hd ((hb1.block _ (blk_lt HR.out)).trans HR.out)
    have HB1 := hd (HB.out.trans (hb1.mono HB.out.size))
    clear hw1 hb1
    go_wp2_with fail
    refine (HLI.out _ (HM.out _ HB1.out)).mono ?_
    rintro e w2 ⟨rfl, hw2⟩
    have hb2 : Below w1.heap.size w1 w2 := by rw [hw2]; exact (Below.refl _ w1).alloc (Nat.le_refl _) _
    have HK2 := hd (show w2.heap[w1.heap.size]? = some (.cells (stc1 ((tL s).map (· ++ ⟨#[10]⟩) ++ [tE s])).toArray 9 (0, 0)) by rw [hw2]; exact blk_new _ _ _)
    have HR2 := hd ((hb2.block _ (blk_lt HR1.out)).trans HR1.out)
    have HB2 := hd (HB1.out.trans (hb2.mono HB1.out.size))
    clear hw2 hb2
    go_wp2_with fail
    refine (HRR.out _ _ (HM.out _ HB2.out) _ HK2).mono ?_
    rintro e w3 ⟨hb3, ⟨hy, hlt, rfl⟩ | ⟨hy, hNL, LV, GV, rfl, hl, hg⟩⟩
    · have HR3 := hd ((hb3.block _ (blk_lt HR2.out)).trans HR2.out)
      have HB3 := hd (HB2.out.trans (hb3.mono HB2.out.size))
      have HE := hd (txtE_syn hy)
      have hwl : w.heap.size < w3.heap.size := blk_lt HR3.out
      have hlt' : ((txtAt s : Nat) : Int) < (N : Int) := by omega
      clear hb3 hy hlt
      have r0 := blk_cell HR3.out 0
      have r1 := blk_cell HR3.out 1
      have r2 := blk_cell HR3.out 2
      have r3 := blk_cell HR3.out 3
      have y0 := blk_frozen HR3.out 0
      have y1 := blk_frozen HR3.out 1
      have y2 := blk_frozen HR3.out 2
      have y3 := blk_frozen HR3.out 3
      simp at r0 r1 r2 r3
      go_wp2_with fail
      clear r0 r1 r2 r3 y0 y1 y2 y3
      have hs3 : (set4S w3 w.heap.size (.string ⟨#[]⟩) (.int .i64 0) (.slice none 0 0) (.slice none 0 0)).heap.size = w3.heap.size := by simp [set4S]
      have hq := (Below.heap_alloc (set4S w3 w.heap.size (.string ⟨#[]⟩) (.int .i64 0) (.slice none 0 0) (.slice none 0 0)) (Obj.cells #[.string ⟨#[]⟩, .int .i64 0, .slice none 0 0, .slice none 0 0] 35) w.heap.size (by rw [hs3]; exact hwl)).trans (set4S_blk HR3.out (.string ⟨#[]⟩) (.int .i64 0) (.slice none 0 0) (.slice none 0 0))
      have z0 := blk_cell hq 0
      have z1 := blk_cell hq 1
      have z2 := blk_cell hq 2
      have z3 := blk_cell hq 3
      simp only [List.getElem?_toArray, List.getElem?_cons_zero, List.getElem?_cons_succ] at z0 z1 z2 z3
      have HB5 := hd ((set4S_below HB3.out (Nat.le_refl _) (.string ⟨#[]⟩) (.int .i64 0) (.slice none 0 0) (.slice none 0 0)).alloc (by rw [hs3]; exact HB3.out.size) (Obj.cells #[.string ⟨#[]⟩, .int .i64 0, .slice none 0 0, .slice none 0 0] 35))
      change bodyPost _ _ _ _ _ ((set4S w3 w.heap.size (.string ⟨#[]⟩) (.int .i64 0) (.slice none 0 0) (.slice none 0 0)).alloc (Obj.cells #[.string ⟨#[]⟩, .int .i64 0, .slice none 0 0, .slice none 0 0] 35))
      generalize (set4S w3 w.heap.size (.string ⟨#[]⟩) (.int .i64 0) (.slice none 0 0) (.slice none 0 0)).alloc (Obj.cells #[.string ⟨#[]⟩, .int .i64 0, .slice none 0 0, .slice none 0 0] 35) = W6 at *
      clear hq
      exact bodyPost_ret (v := .tuple #[.agg #[.string ⟨#[]⟩, .int .i64 0, .slice none 0 0, .slice none 0 0], .int .i64 ((txtAt s : Nat) : Int), .int .i64 26]) (by simp [results, Tryz.results15, go_sem, z0, z1, z2, z3]) rfl (txtd_bad HB5.out (by decide) HE.out rfl)
    · have HR3 := hd ((hb3.block _ (blk_lt HR2.out)).trans HR2.out)
      have HB3 := hd (HB2.out.trans (hb3.mono HB2.out.size))
      have hwl : w.heap.size < w3.heap.size := blk_lt HR3.out
      have HTE := hd (show txtE s = chkRec (tNm s) (tSt s) (tBs s) (tGs s) by unfold txtE; rw [hy]; rfl)
      have HTA := hd (show txtE s ≠ 0 → txtAt s = (tL s).length from fun h => by unfold txtAt; rw [hy]; exact if_neg h)
      have hnlt : ¬ (N : Int) < (N : Int) := by omega
      have HNL := hd hNL
      clear hb3 hy hNL hN
      obtain ⟨A1, c1, rfl, -⟩ := own_form hl
      obtain ⟨A2, c2, rfl, -⟩ := own_form hg
      have HX4 := hd (blk_new w3 #[.string (tNm s), .int .i64 (tSt s), .slice A1 (tBs s).length c1, .slice A2 (tGs s).length c2] 35)
      have HR4 := hd (show (w3.alloc (Obj.cells #[.string (tNm s), .int .i64 (tSt s), .slice A1 (tBs s).length c1, .slice A2 (tGs s).length c2] 35)).heap[w.heap.size]? = some (.cells #[.string ⟨#[]⟩, .int .i64 0, .slice none 0 0, .slice none 0 0] 35 (0, 0)) from (Below.heap_alloc _ _ _ hwl).trans HR3.out)
      have HB4 := hd (HB3.out.alloc HB3.out.size (Obj.cells #[.string (tNm s), .int .i64 (tSt s), .slice A1 (tBs s).length c1, .slice A2 (tGs s).length c2] 35))
      have hb34 : Below w3.heap.size w3 (w3.alloc (Obj.cells #[.string (tNm s), .int .i64 (tSt s), .slice A1 (tBs s).length c1, .slice A2 (tGs s).length c2] 35)) := (Below.refl _ w3).alloc (Nat.le_refl _) _
      have HL4 := hd (own_belS hl hb34)
      have HG4 := hd (own_belS hg hb34)
      clear hb34 hl hg HR3 HB3
      have x0 := blk_cell HX4.out 0
      have x1 := blk_cell HX4.out 1
      have x2 := blk_cell HX4.out 2
      have x3 := blk_cell HX4.out 3
      simp at x0 x1 x2 x3
      go_wp2_with fail
      generalize hWg : (w3.alloc (Obj.cells #[.string (tNm s), .int .i64 (tSt s), .slice A1 (tBs s).length c1, .slice A2 (tGs s).length c2] 35)) = W4 at *
      generalize w3.heap.size = X4 at *
      refine (chkRec_any (tNm s) (tSt s) _ _ (tBs s) (tGs s) W4 (rd_of_own HL4.out) (rd_of_own HG4.out) (by have := hnz.out; have := HSZ.out; unfold maxLen; omega)).mono ?_
      rintro e w5 ⟨rfl, hb5⟩
      rw [← HTE.out]
      have HX5 := hd ((hb5.block _ (blk_lt HX4.out)).trans HX4.out)
      have HR5 := hd ((hb5.block _ (blk_lt HR4.out)).trans HR4.out)
      have HB5' := hd (HB4.out.trans (hb5.mono HB4.out.size))
      have HL5 := hd (own_belS HL4.out hb5)
      have HG5 := hd (own_belS HG4.out hb5)
      clear hb5 hWg x0 x1 x2 x3 HTE
      obtain ⟨E, hE⟩ : ∃ E, E = txtE s := ⟨_, rfl⟩
      rw [← hE] at HTA ⊢
      have HE := hd hE
      clear hE
      by_cases hz : E = 0
      · subst hz
        have x0 := blk_cell HX5.out 0
        have x1 := blk_cell HX5.out 1
        have x2 := blk_cell HX5.out 2
        have x3 := blk_cell HX5.out 3
        simp at x0 x1 x2 x3
        have r0 := blk_cell HR5.out 0
        have r1 := blk_cell HR5.out 1
        have r2 := blk_cell HR5.out 2
        have r3 := blk_cell HR5.out 3
        have y0 := blk_frozen HR5.out 0
        have y1 := blk_frozen HR5.out 1
        have y2 := blk_frozen HR5.out 2
        have y3 := blk_frozen HR5.out 3
        simp at r0 r1 r2 r3
        go_wp2_with fail
        clear x0 x1 x2 x3
        have HL6 := hd (own_set4S (a := .string (tNm s)) (b := .int .i64 (tSt s)) (c := .slice A1 (tBs s).length c1) (d := .slice A2 (tGs s).length c2) HL5.out (own_boxS HL5.out HR5.out (by decide)))
        have HG6 := hd (own_set4S (a := .string (tNm s)) (b := .int .i64 (tSt s)) (c := .slice A1 (tBs s).length c1) (d := .slice A2 (tGs s).length c2) HG5.out (own_boxS HG5.out HR5.out (by decide)))
        have hq := set4S_blk HR5.out (.string (tNm s)) (.int .i64 (tSt s)) (.slice A1 (tBs s).length c1) (.slice A2 (tGs s).length c2)
        have z0 := blk_cell hq 0
        have z1 := blk_cell hq 1
        have z2 := blk_cell hq 2
        have z3 := blk_cell hq 3
        simp at z0 z1 z2 z3
        have HB5 := hd (set4S_below HB5'.out (Nat.le_refl _) (.string (tNm s)) (.int .i64 (tSt s)) (.slice A1 (tBs s).length c1) (.slice A2 (tGs s).length c2))
        change bodyPost _ _ _ _ _ (set4S w5 w.heap.size (.string (tNm s)) (.int .i64 (tSt s)) (.slice A1 (tBs s).length c1) (.slice A2 (tGs s).length c2))
        generalize set4S w5 w.heap.size (.string (tNm s)) (.int .i64 (tSt s)) (.slice A1 (tBs s).length c1) (.slice A2 (tGs s).length c2) = W6 at *
        clear hq r0 r1 r2 r3 y0 y1 y2 y3
        exact bodyPost_ret (v := .tuple #[.agg #[.string (tNm s), .int .i64 (tSt s), .slice A1 (tBs s).length c1, .slice A2 (tGs s).length c2], .int .i64 0, .int .i64 0]) (by simp [results, Tryz.results15, go_sem, z0, z1, z2, z3]) rfl ⟨HB5.out, .inl ⟨HE.out.symm, _, _, rfl, rd_of_own HL6.out, rd_of_own HG6.out, full_own HL6.out⟩⟩
      · have hz' : (E != 0) = true := by simpa using hz
        have HAT := hd (HTA.out hz)
        clear HTA
        have r0 := blk_cell HR5.out 0
        have r1 := blk_cell HR5.out 1
        have r2 := blk_cell HR5.out 2
        have r3 := blk_cell HR5.out 3
        have y0 := blk_frozen HR5.out 0
        have y1 := blk_frozen HR5.out 1
        have y2 := blk_frozen HR5.out 2
        have y3 := blk_frozen HR5.out 3
        simp at r0 r1 r2 r3
        go_wp2_with fail
        have hq := set4S_blk HR5.out (.string ⟨#[]⟩) (.int .i64 0) (.slice none 0 0) (.slice none 0 0)
        have z0 := blk_cell hq 0
        have z1 := blk_cell hq 1
        have z2 := blk_cell hq 2
        have z3 := blk_cell hq 3
        simp at z0 z1 z2 z3
        have HB5 := hd (set4S_below HB5'.out (Nat.le_refl _) (.string ⟨#[]⟩) (.int .i64 0) (.slice none 0 0) (.slice none 0 0))
        change bodyPost _ _ _ _ _ (set4S w5 w.heap.size (.string ⟨#[]⟩) (.int .i64 0) (.slice none 0 0) (.slice none 0 0))
        generalize set4S w5 w.heap.size (.string ⟨#[]⟩) (.int .i64 0) (.slice none 0 0) (.slice none 0 0) = W6 at *
        clear hq r0 r1 r2 r3 y0 y1 y2 y3
        exact bodyPost_ret (v := .tuple #[.agg #[.string ⟨#[]⟩, .int .i64 0, .slice none 0 0, .slice none 0 0], .int .i64 (N : Int), .int .i64 E]) (by simp [results, Tryz.results15, go_sem, z0, z1, z2, z3]) rfl (txtd_bad HB5.out hz HE.out.symm (by rw [HAT.out, HNL.out]))
end Go.Proofs.YtkgkpcmokmhakaaGreatDoor

namespace Go.Proofs.YtkgkpcmokmhakaaGreatDoor
open Go.RowKit

theorem cutA_line (c : UInt8) : ∀ (x acc rest : List UInt8), c ∉ x → cutA c [] acc (x ++ c :: rest) = (acc ++ x) :: cutA c [] [] rest
  | [], acc, rest, _ => by rw [List.nil_append, cutA, if_pos rfl, List.append_nil]
  | y :: x, acc, rest, h => by
    have hy : ¬ y = c := fun e => h (by simp [e])
    rw [List.cons_append, cutA, if_neg hy, cutA_line c x (acc ++ [y]) rest (fun e => h (by simp [e]))]
    simp
theorem cutA_end (c : UInt8) : ∀ (x acc : List UInt8), c ∉ x → cutA c [] acc x = [acc ++ x]
  | [], acc, _ => by simp [cutA]
  | y :: x, acc, h => by
    have hy : ¬ y = c := fun e => h (by simp [e])
    rw [cutA, if_neg hy, cutA_end c x (acc ++ [y]) (fun e => h (by simp [e]))]
    simp
/-- Parts, each with the byte behind it. -/
def joinC (c : UInt8) (L : List (List UInt8)) : List UInt8 := (L.map (· ++ [c])).flatten
theorem cut_join (c : UInt8) (e : List UInt8) (he : c ∉ e) : ∀ L : List (List UInt8), (∀ x ∈ L, c ∉ x) → cutA c [] [] (joinC c L ++ e) = L ++ [e]
  | [], _ => by
    have := cutA_end c e [] he
    simpa [joinC] using this
  | x :: L, h => by
    have h1 : joinC c (x :: L) ++ e = x ++ c :: (joinC c L ++ e) := by simp [joinC]
    rw [h1, cutA_line c x [] _ (h x (by simp)), cut_join c e he L (fun y hy => h y (by simp [hy]))]
    simp
theorem spl_join (s : ByteArray) (c : UInt8) (L : List ByteArray) (e : ByteArray) (h : s.data.toList = joinC c (L.map (·.data.toList)) ++ e.data.toList) (hL : ∀ x ∈ L, c ∉ x.data.toList) (he : c ∉ e.data.toList) : spl s c.toNat = L ++ [e] := by
  apply bytes_inj
  rw [spl_cut, h, cut_join c _ he _ (fun x hx => by obtain ⟨y, hy, rfl⟩ := List.mem_map.1 hx; exact hL y hy)]
  simp
/-- The lines of a text that is joined of them. -/
theorem tL_join (s : ByteArray) (L : List ByteArray) (e : ByteArray) (h : s.data.toList = joinC 10 (L.map (·.data.toList)) ++ e.data.toList) (hL : ∀ x ∈ L, (10 : UInt8) ∉ x.data.toList) (he : (10 : UInt8) ∉ e.data.toList) : tL s = L ∧ tE s = e := by
  have h1 := spl_join s 10 L e h hL he
  rw [show (10 : UInt8).toNat = 10 from rfl, spl_is] at h1
  obtain ⟨ha, hb⟩ := List.append_inj' h1 rfl
  exact ⟨ha, by simpa using hb⟩
/-- The number of digits. -/
def dgl (l : List UInt8) : Nat := l.foldl (fun a d => 10 * a + (d.toNat - 48)) 0
theorem dgl_snoc (l : List UInt8) (d : UInt8) : dgl (l ++ [d]) = 10 * dgl l + (d.toNat - 48) := by simp [dgl, List.foldl_append]
theorem bAt_data (s : ByteArray) (i : Nat) (h : i < s.data.toList.length) : bAt s i = (s.data.toList[i]'h).toNat := by
  unfold bAt
  rw [List.getD_eq_getElem?_getD, List.getElem?_eq_getElem h]; rfl
theorem digN_dgl (s : ByteArray) : ∀ k, k ≤ s.size → digN s k = dgl (s.data.toList.take k)
  | 0, _ => rfl
  | k + 1, hk => by
    have hl : s.data.toList.length = s.size := by simp
    have hk' : k < s.data.toList.length := by omega
    rw [digN, digN_dgl s k (by omega), List.take_add_one, List.getElem?_eq_getElem hk', bAt_data s k hk']
    exact (dgl_snoc _ _).symm
theorem digN_all (s : ByteArray) : digN s s.size = dgl s.data.toList := by
  have hl : s.data.toList.length = s.size := by simp
  rw [digN_dgl s s.size (Nat.le_refl _), ← hl, List.take_length]
def isD (d : UInt8) : Bool := decide (48 ≤ d.toNat) && decide (d.toNat ≤ 57)
theorem digs_all (s : ByteArray) : digs s = s.data.toList.all isD := by
  have hl : s.data.toList.length = s.size := by simp
  unfold digs
  rw [Bool.eq_iff_iff, List.all_eq_true, List.all_eq_true]
  constructor
  · intro h d hd
    obtain ⟨i, hi, rfl⟩ := List.getElem_of_mem hd
    have := h i (by simpa using (by omega : i < s.size))
    rw [bAt_data s i hi] at this
    exact this
  · intro h i hi
    have hi' : i < s.data.toList.length := by have : i < s.size := (by simpa using hi); omega
    have := h _ (List.getElem_mem hi')
    rw [bAt_data s i hi']
    exact this
theorem ofNat_dig (n : Nat) (h : n < 10) : (UInt8.ofNat (48 + n)).toNat = 48 + n := by
  show (48 + n) % 256 = 48 + n
  omega
/-- A numeral's digits. -/
theorem dec_facts : ∀ m n : Nat, n ≤ m → dgl (Lib.decDigits n) = n ∧ (Lib.decDigits n).all isD = true ∧ 1 ≤ (Lib.decDigits n).length ∧ (1 ≤ n → ∃ d l, Lib.decDigits n = d :: l ∧ d.toNat ≠ 48)
  | 0, n, h => by
    have h0 : n = 0 := by omega
    rw [h0, Lib.decDigits_one (by omega)]
    refine ⟨by decide, by decide, by decide, fun h => absurd h (by omega)⟩
  | m + 1, n, h => by
    by_cases h1 : n < 10
    · rw [Lib.decDigits_one h1]
      have e := ofNat_dig n h1
      refine ⟨?_, ?_, by simp, fun h0 => ⟨_, [], rfl, by omega⟩⟩
      · simp only [dgl, List.foldl_cons, List.foldl_nil]; omega
      · simp only [List.all_cons, List.all_nil, Bool.and_true, isD, e]; simp; omega
    · obtain ⟨a1, a2, a3, a4⟩ := dec_facts m (n / 10) (by omega)
      have e := ofNat_dig (n % 10) (by omega)
      have hu : Lib.decDigits n = Lib.decDigits (n / 10) ++ [UInt8.ofNat (48 + n % 10)] := by rw [Lib.decDigits, dif_neg h1]
      rw [hu]
      refine ⟨by rw [dgl_snoc, a1, e]; omega, ?_, by simp, fun _ => ?_⟩
      · rw [List.all_append, a2]
        simp only [List.all_cons, List.all_nil, Bool.and_true, Bool.true_and, isD, e]; simp; omega
      · obtain ⟨d, l, hl, hd⟩ := a4 (by omega)
        exact ⟨d, l ++ [UInt8.ofNat (48 + n % 10)], by rw [hl]; rfl, hd⟩
theorem dec_len9 (n : Nat) (hn : n ≤ 999999999) : (Lib.decDigits n).length ≤ 9 := by
  have h : ∀ k u : Nat, u < 10 ^ (k + 1) → (Lib.decDigits u).length ≤ k + 1 := by
    intro k
    induction k with
    | zero => intro u h; rw [Lib.decDigits_one (by omega)]; simp
    | succ k ih =>
      intro u h
      by_cases h1 : u < 10
      · rw [Lib.decDigits_one h1]; simp
      · rw [Lib.decDigits, dif_neg h1]
        have := ih (u / 10) (by rw [Nat.pow_succ] at h; omega)
        simp only [List.length_append, List.length_cons, List.length_nil]
        omega
  exact h 8 n (by omega)
theorem bAt_zero (s : ByteArray) (d : UInt8) (r : List UInt8) (h : s.data.toList = d :: r) : bAt s 0 = d.toNat := by
  unfold bAt; rw [h]; rfl
theorem dec_numB (s : ByteArray) (n : Nat) (h : s.data.toList = Lib.decDigits n) (hn : n ≤ 999999999) : numB s = some n := by
  have hl : s.data.toList.length = s.size := by simp
  obtain ⟨a1, a2, a3, a4⟩ := dec_facts n n (Nat.le_refl _)
  have h9 := dec_len9 n hn
  rw [h] at hl
  unfold numB
  rw [if_neg, digs_all, h, a2, if_pos rfl, digN_all, h, a1]
  rintro (h0 | h0 | ⟨h0, h1⟩)
  · omega
  · omega
  · rcases Nat.eq_zero_or_pos n with hz | hz
    · rw [hz, Lib.decDigits_one (by omega)] at hl; simp at hl; omega
    · obtain ⟨d, l, e, hd⟩ := a4 hz
      rw [bAt_zero s d l (by rw [h, e])] at h1
      exact hd h1
end Go.Proofs.YtkgkpcmokmhakaaGreatDoor

namespace Go.Proofs.YtkgkpcmokmhakaaGreatDoor
open Go.RowKit
open Ieee (Format Datum)

/-- A valid level's value, by its sixteenths. -/
theorem num16 {b : Nat} (h : chkLev b = 0) : num b * 16 = s16 b * (oneU sgl : Int) := by
  unfold chkLev at h
  cases hd0 : FloatKind.f32.decode b with
  | nan s t => rw [hd0] at h; cases h
  | infinity s => rw [hd0] at h; cases h
  | number s m e =>
    rw [hd0] at h
    simp only at h
    split at h
    · rename_i hc
      obtain ⟨hf, he⟩ := f32_top hd0
      obtain ⟨v1, -⟩ := sixt_num hf hc.2
      have h1 := hf.lp
      rw [sgl_lp] at h1
      have hp9 := Nat.two_pow_pos K9
      have hdiv : 16 * magOf sgl m e % oneU sgl = 0 := by
        have := hc.1
        rw [mag_wide m e h1, one_wide, ← Nat.mul_assoc, Nat.mul_mod_mul_right] at this
        rcases Nat.mul_eq_zero.1 this with h | h
        · exact h
        · omega
      rw [mag_wide m e h1, one_wide, ← Nat.mul_assoc, Nat.mul_div_mul_right _ _ hp9] at v1
      have hn : num b = sgnI s (magOf sgl m e) := by unfold num; rw [hd0]
      unfold s16
      rw [v1, hn]
      have hq : 16 * magOf sgl m e / oneU sgl * oneU sgl = 16 * magOf sgl m e := Nat.div_mul_cancel (Nat.dvd_of_mod_eq_zero hdiv)
      simp only [Option.getD_some]
      unfold sgnI
      cases s
      · simp only [Bool.false_eq_true, if_false]
        rw [← Int.natCast_mul, hq]; omega
      · simp only [if_true]
        rw [Int.neg_mul, Int.neg_mul, ← Int.natCast_mul, hq]; omega
    · cases h
theorem num_lt {a b : Nat} (ha : chkLev a = 0) (hb : chkLev b = 0) : num a < num b ↔ s16 a < s16 b := by
  have h1 := num16 ha
  have h2 := num16 hb
  have hp : (0 : Int) < (oneU sgl : Int) := by have := oneU_pos sgl; omega
  constructor
  · intro h
    refine Int.lt_of_mul_lt_mul_right (a := (oneU sgl : Int)) ?_ (Int.le_of_lt hp)
    rw [← h1, ← h2]; omega
  · intro h
    have := Int.mul_lt_mul_of_pos_right h hp
    rw [← h1, ← h2] at this
    omega
theorem num_eq {a b : Nat} (ha : chkLev a = 0) (hb : chkLev b = 0) : num a = num b ↔ s16 a = s16 b := by
  have h1 := num_lt ha hb
  have h2 := num_lt hb ha
  omega
theorem feq16 {a b : Nat} (ha : chkLev a = 0) (hb : chkLev b = 0) : feqL a b = decide (s16 a = s16 b) := by
  rw [feq_num (fin_lev ha) (fin_lev hb), decide_eq_decide, num_eq ha hb]
end Go.Proofs.YtkgkpcmokmhakaaGreatDoor
