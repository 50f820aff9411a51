/-
  gauge.readRecord, over what its heading and its levels are read as. Conditions: written at each.
-/
import Derived.Test.YtnncmaegmlaabaaGreatDoorProg
import Derived.Test.YtnncmaegmlaabaaGreatDoorS2
import Derived.Test.YtnncmaegmlaabaaGreatDoorEK
import Derived.Test.YtnncmaegmlaabaaGreatDoorY4
import Derived.Maps.AppendAt
namespace Go.Proofs.YtnncmaegmlaabaaGreatDoor
open Go.RowKit
attribute [local go_sem] Oper.semAt_some

/-- The first elements of a list, then what it was before. -/
def pfx {α : Type} (d : α) (xs : List α) (k : Nat) : List α := (List.range xs.length).map (fun i => if i < k then xs.getD i d else d)
theorem pfx_zero {α : Type} (d : α) (xs : List α) : pfx d xs 0 = List.replicate xs.length d := by
  apply List.ext_getElem
  · simp [pfx]
  · intro i h1 h2; simp [pfx]
theorem pfx_end {α : Type} (d : α) (xs : List α) : pfx d xs xs.length = xs := by
  apply List.ext_getElem
  · simp [pfx]
  · intro i h1 h2
    have : i < xs.length := by simpa [pfx] using h1
    simp [pfx, this]
theorem pfx_set {α : Type} (d : α) (xs : List α) (k : Nat) : (pfx d xs k).set k (xs.getD k d) = pfx d xs (k + 1) := by
  apply List.ext_getElem
  · simp [pfx]
  · intro i h1 h2
    rw [List.getElem_set]
    have hi : i < xs.length := by simpa [pfx] using h2
    by_cases e : k = i
    · subst e
      rw [if_pos rfl]
      simp [pfx]
    · rw [if_neg e]
      have : (i < k + 1) = (i < k) := propext (by omega)
      simp [pfx, this]
theorem flc_set (ls : List Nat) (i v : Nat) : (flc ls).set i (.float .f32 v) = flc (ls.set i v) := by
  unfold flc
  rw [List.map_set]
theorem blm_set (ls : List Bool) (i : Nat) (v : Bool) : (ls.map Value.bool).set i (.bool v) = (ls.set i v).map Value.bool := by rw [List.map_set]

/-- What readRecord holds: the result's block, the levels, the marks. -/
structure RI (w : World) (n L M : Nat) (ls : List Nat) (ms : List Bool) (W : World) : Prop where
  res : W.heap[w.heap.size]? = some (.cells #[.string ⟨#[]⟩, .int .i64 0, .slice none 0 0, .slice none 0 0] 31 (0, 0))
  lev : W.ownsRow (w.heap.size + 1) 65 1 (.slice (some ⟨L, 0, none⟩) n n) n (flc ls)
  mrk : W.ownsRow (w.heap.size + 1) 4 1 (.slice (some ⟨M, 0, none⟩) n n) n (ms.map Value.bool)
  bel : Below w.heap.size w W
theorem RI.below {w : World} {n L M : Nat} {ls : List Nat} {ms : List Bool} {V W : World} (h : RI w n L M ls ms V) (hb : Below V.heap.size V W) : RI w n L M ls ms W :=
  ⟨(hb.block _ (blk_lt h.res)).trans h.res, own_belS h.lev hb, own_belS h.mrk hb, h.bel.trans (hb.mono h.bel.size)⟩
theorem RI.put {w : World} {n L M : Nat} {ls : List Nat} {ms : List Bool} {V : World} (h : RI w n L M ls ms V) (i v : Nat) (b : Bool) :
    RI w n L M (ls.set i v) (ms.set i b) ((V.setCell ⟨L, i, none⟩ (.float .f32 v)).setCell ⟨M, i, none⟩ (.bool b)) := by
  have hL := (h.lev.lt L rfl).1
  have hM := (h.mrk.lt M rfl).1
  have h1 : (V.setCell ⟨L, i, none⟩ (.float .f32 v)).ownsRow (w.heap.size + 1) 65 1 (.slice (some ⟨L, 0, none⟩) n n) n (flc (ls.set i v)) := by rw [← flc_set]; exact (h.lev.stored i _).1
  have h2 : (V.setCell ⟨L, i, none⟩ (.float .f32 v)).ownsRow (w.heap.size + 1) 4 1 (.slice (some ⟨M, 0, none⟩) n n) n (ms.map Value.bool) := own_farS h.mrk (own_typesS h.mrk h.lev (by decide))
  refine ⟨?_, own_farS h1 (own_typesS h1 h2 (by decide)), by rw [← blm_set]; exact (h2.stored i _).1, (h.bel.setCell (p := ⟨L, i, none⟩) (by show w.heap.size ≤ L; omega) _).setCell (p := ⟨M, i, none⟩) (by show w.heap.size ≤ M; omega) _⟩
  rw [Below.heap_setCell _ ⟨M, i, none⟩ _ _ (by show w.heap.size ≠ M; omega), Below.heap_setCell _ ⟨L, i, none⟩ _ _ (by show w.heap.size ≠ L; omega)]
  exact h.res
/-- What readRecord gives back. -/
def RdRec (NM : ByteArray) (ST : Int) (hb : Bool) (n : Nat) (xs : List Nat) (ms ks : List Bool) (w : World) (e : Ending) (w' : World) : Prop := Below w.heap.size w w' ∧
  ((hb = false ∧ e = .returned (.tuple #[.agg #[.string ⟨#[]⟩, .int .i64 0, .slice none 0 0, .slice none 0 0], .int .i64 0])) ∨
   (hb = true ∧ ∃ k, k < n ∧ (∀ i, i < k → ks.getD i false = true) ∧ ks.getD k false = false ∧ e = .returned (.tuple #[.agg #[.string ⟨#[]⟩, .int .i64 0, .slice none 0 0, .slice none 0 0], .int .i64 ((k + 1 : Nat) : Int)])) ∨
   (hb = true ∧ (∀ i, i < n → ks.getD i false = true) ∧ ∃ LV GV, e = .returned (.tuple #[.agg #[.string NM, .int .i64 ST, LV, GV], .int .i64 ((n + 1 : Nat) : Int)]) ∧ w'.ownsRow w.heap.size 65 1 LV n (flc (asmK xs ms n)) ∧ w'.ownsRow w.heap.size 63 2 GV (strF (ms.map (!·)) n).length (spc (strF (ms.map (!·)) n))))

set_option maxRecDepth 1000000 in
set_option maxHeartbeats 8000000 in
theorem readRecord_any (NM : ByteArray) (ST : Int) (hb : Bool) (h0 : ByteArray) (T : List ByteArray) (xs : List Nat) (ms ks : List Bool) (g o c : Nat) (w : World) (hx : xs.length = T.length) (hms : ms.length = T.length) (hc : T.length + 1 ≤ c) (hc2 : c ≤ 1000000) (hn : T.length ≤ 100000) (hg : g < w.heap.size)
    (HLN : Hid (∀ j u, (stc1 (h0 :: T))[j]? = some u → w.cell? ⟨g, o + j, none⟩ = some u))
    (HH : Hid (∀ W, Below w.heap.size w W → Calls Tryz.prog 105 #[.string h0] W fun e w' => e = .returned (.tuple #[.string NM, .int .i64 ST, .bool hb]) ∧ Below W.heap.size W w'))
    (HRL : Hid (∀ i W, i < T.length → Below w.heap.size w W → Calls Tryz.prog 106 #[.string (T.getD i ⟨#[]⟩)] W fun e w' => e = .returned (.tuple #[.float .f32 (xs.getD i 0), .bool (ms.getD i false), .bool (ks.getD i false)]) ∧ Below W.heap.size W w')) :
    Calls Tryz.prog 52 #[.slice (some ⟨g, o, none⟩) (T.length + 1) c] w (RdRec NM ST hb T.length xs ms ks w) := by
  obtain ⟨i0, hi, hz0, hz1, hz2⟩ := info_parts floatInfo
  obtain ⟨j0, hj, hy0, hy1, hy2⟩ := info_parts boolInfo
  have HJ := hd (And.intro hj (And.intro hy0 (And.intro hy1 hy2)))
  have HBY := hd (show i0.bytes * T.length ≤ 281474976710656 by rw [hz2]; omega)
  have HBJ := hd (show j0.bytes * T.length ≤ 281474976710656 by rw [hy2]; omega)
  have HMX := hd (show T.length ≤ maxLen by unfold maxLen; omega)
  have HX := hd hx
  have HM := hd hms
  have HC0 := hd (show ∀ W, Below w.heap.size w W → W.cell? ⟨g, o, none⟩ = some (.string h0) from fun W h => (h.cell (p := ⟨g, o, none⟩) hg).trans (HLN.out 0 _ rfl))
  have HCT := hd (show ∀ W i, Below w.heap.size w W → i < T.length → W.cell? ⟨g, o + 1 + i, none⟩ = some (.string (T.getD i ⟨#[]⟩)) from fun W i h hi => (h.cell (p := ⟨g, o + 1 + i, none⟩) hg).trans (by rw [show o + 1 + i = o + (i + 1) by omega]; exact HLN.out (i + 1) _ (by simp [stc1, hi])))
  obtain ⟨n, hnn⟩ : ∃ n, n = T.length := ⟨_, rfl⟩
  rw [← hnn] at hc hn HBY HBJ HMX HX HM HRL HCT ⊢
  obtain ⟨N, hN⟩ : ∃ N, N = n + 1 := ⟨_, rfl⟩
  have hn1 : ((N : Nat) : Int) - 1 = (n : Int) := by omega
  have hN1 : (1 : Int) ≤ (N : Int) := by omega
  have hN0 : (0 : Int) < (N : Int) := by omega
  have hNn : N - 1 = n := by omega
  have hNc : N ≤ c := by omega
  have hNp : 1 ≤ N := by omega
  have hcp : 1 ≤ c := by omega
  rw [← hN] at hc ⊢
  have HNN := hd hN
  obtain ⟨W0, hW0⟩ : ∃ W0, W0 = w.alloc (.cells #[.string ⟨#[]⟩, .int .i64 0, .slice none 0 0, .slice none 0 0] 31) := ⟨_, rfl⟩
  have hb0 : Below w.heap.size w W0 := by rw [hW0]; exact (Below.refl _ w).alloc (Nat.le_refl _) _
  have HR0 := hd (show W0.heap[w.heap.size]? = some (.cells #[.string ⟨#[]⟩, .int .i64 0, .slice none 0 0, .slice none 0 0] 31 (0, 0)) by rw [hW0]; exact blk_new _ _ _)
  have hl0 := HC0.out W0 hb0
  rw [hW0] at hl0
  have HB0 := hd hb0
  clear hb0 hx hms hnn hN hj hy0 hy1 hy2 HC0 HLN
  go_enter Tryz.func52, Tryz.ntmps52
  go_wp2_with fail
  rw [← hW0]
  clear hW0 hl0
  refine (HH.out _ HB0.out).mono ?_
  rintro e w1 ⟨rfl, hb1⟩
  have HR1 := hd ((hb1.block _ (blk_lt HR0.out)).trans HR0.out)
  have HB1 := hd (HB0.out.trans (hb1.mono HB0.out.size))
  have hs1 : w.heap.size < w1.heap.size := blk_lt HR1.out
  clear hb1 HR0 HB0
  cases hb
  · have HZ := hd (show RdRec NM ST false n xs ms ks w (.returned (.tuple #[.agg #[.string ⟨#[]⟩, .int .i64 0, .slice none 0 0, .slice none 0 0], .int .i64 0])) = RdRec NM ST false n xs ms ks w (.returned (.tuple #[.agg #[.string ⟨#[]⟩, .int .i64 0, .slice none 0 0, .slice none 0 0], .int .i64 0])) from rfl)
    clear HZ
    have r0 := blk_cell HR1.out 0
    have r1 := blk_cell HR1.out 1
    have r2 := blk_cell HR1.out 2
    have r3 := blk_cell HR1.out 3
    have y0 := blk_frozen HR1.out 0
    have y1 := blk_frozen HR1.out 1
    have y2 := blk_frozen HR1.out 2
    have y3 := blk_frozen HR1.out 3
    simp at r0 r1 r2 r3
    go_wp2_with fail
    clear r0 r1 r2 r3 y0 y1 y2 y3
    all_goals
      have r0 := blk_cell HR1.out 0
      have r1 := blk_cell HR1.out 1
      have r2 := blk_cell HR1.out 2
      have r3 := blk_cell HR1.out 3
      simp at r0 r1 r2 r3
      have hq := set4S_blk HR1.out (.string ⟨#[]⟩) (.int .i64 0) (.slice none 0 0) (.slice none 0 0)
      have z0 := blk_cell hq 0
      have z1 := blk_cell hq 1
      have z2 := blk_cell hq 2
      have z3 := blk_cell hq 3
      simp at z0 z1 z2 z3
      have HB5 := hd (set4S_below HB1.out (Nat.le_refl _) (.string ⟨#[]⟩) (.int .i64 0) (.slice none 0 0) (.slice none 0 0))
      change bodyPost _ _ _ _ _ (set4S w1 w.heap.size (.string ⟨#[]⟩) (.int .i64 0) (.slice none 0 0) (.slice none 0 0))
      generalize set4S w1 w.heap.size (.string ⟨#[]⟩) (.int .i64 0) (.slice none 0 0) (.slice none 0 0) = W6 at *
      clear hq r0 r1 r2 r3
      exact bodyPost_ret (v := .tuple #[.agg #[.string ⟨#[]⟩, .int .i64 0, .slice none 0 0, .slice none 0 0], .int .i64 0]) (by simp [results, Tryz.results52, go_sem, z0, z1, z2, z3]) rfl ⟨HB5.out, .inl ⟨rfl, rfl⟩⟩
  · go_wp2_with (first
      | (at_make; refine wpList_make_full _ rfl _ _ 22 rfl (w.heap.size + 1) 65 i0 (.float .f32 0) 1 Tryz.underlying22 hi hz0 hz1 .i64 .i64 (n : Int) (n : Int) n rfl rfl rfl rfl HBY.out HMX.out (by omega) ?_; intro w5 hown5 hgrow5; have HO5 := hd (And.intro hown5 hgrow5); have hs5 : w1.heap.size < w5.heap.size := (hown5.lt _ rfl).2; clear hown5 hgrow5)
      | (at_make; refine wpList_make_full _ rfl _ _ 96 rfl (w.heap.size + 1) 4 j0 (.bool false) 1 Tryz.underlying96 HJ.out.1 HJ.out.2.1 HJ.out.2.2.1 .i64 .i64 (n : Int) (n : Int) n rfl rfl rfl rfl HBJ.out HMX.out (by omega) ?_; intro w6 hown6 hgrow6; have HO6 := hd (And.intro hown6 hgrow6); clear hown6 hgrow6))
    all_goals
      have HI0 := hd (show RI w n w1.heap.size w5.heap.size (pfx 0 xs 0) (pfx false ms 0) w6 from by
        obtain ⟨h1, h2⟩ := HO5.out
        obtain ⟨h3, h4⟩ := HO6.out
        have e1 : (madeCells (Value.float .f32 0).cells (n * 1)).toList = flc (pfx 0 xs 0) := by
          rw [show (Value.float .f32 0).cells = #[Value.float .f32 0] from rfl, toList_madeCells_one, pfx_zero, HX.out]; simp [flc]
        have e2 : (madeCells (Value.bool false).cells (n * 1)).toList = (pfx false ms 0).map Value.bool := by
          rw [show (Value.bool false).cells = #[Value.bool false] from rfl, toList_madeCells_one, pfx_zero, HM.out]; simp
        have h5 : w5.ownsRow (w.heap.size + 1) 65 1 (.slice (some ⟨w1.heap.size, 0, none⟩) n n) n (flc (pfx 0 xs 0)) := by rw [← e1]; exact h1
        refine ⟨(h4.block _ (by omega) (by simp)).trans ((h2.block _ (by omega) (by simp)).trans HR1.out), h5.kept h4 (by simp [Value.ownBlock]), by rw [← e2]; exact h3, (HB1.out.grown h2 (by omega) (fun _ h => by cases h)).grown h4 (by omega) (fun _ h => by cases h)⟩)
      clear HO5 HO6 HR1 HB1
      generalize w5.heap.size = M at *
      generalize w1.heap.size = L at *
      go_wp2
      go_loopw [36] (fun i wr => ∃ k : Nat, k ≤ n ∧ i = .int .i64 k ∧ Hid (RI w n L M (pfx 0 xs k) (pfx false ms k) wr) ∧ Hid (∀ i, i < k → ks.getD i false = true)) (fun i _ => n - (intOf i).toNat)
      case atStart => exact ⟨0, Nat.zero_le _, rfl, HI0, hd (fun i hi => absurd hi (by omega))⟩
      case round =>
        obtain ⟨k, hk, rfl, HI, HKS⟩ := hrel
        by_cases hlt : k < n
        · first
          | (exfalso; omega)
          | have hki : (k : Int) < (n : Int) := by omega
            have hl1 := HCT.out wr k HI.out.bel hlt
            have HRK := hd (fun W hW => HRL.out k W hlt hW)
            obtain ⟨y, hy⟩ : ∃ y, y = T.getD k ⟨#[]⟩ := ⟨_, rfl⟩
            obtain ⟨xv, hxv⟩ : ∃ v, v = xs.getD k 0 := ⟨_, rfl⟩
            obtain ⟨mv, hmv⟩ : ∃ v, v = ms.getD k false := ⟨_, rfl⟩
            obtain ⟨kv, hkv⟩ : ∃ v, v = ks.getD k false := ⟨_, rfl⟩
            rw [← hy] at hl1 HRK
            rw [← hxv, ← hmv, ← hkv] at HRK
            have HXV := hd hxv
            have HMV := hd hmv
            have HKV := hd hkv
            clear hy hxv hmv hkv
            go_wp2_with fail
            refine (HRK.out _ HI.out.bel).mono ?_
            rintro e w7 ⟨rfl, hb7⟩
            have HI7 := hd (HI.out.below hb7)
            clear hb7 HI hl1 HRK
            cases kv
            · have HR7 := hd HI7.out.res
              have HB7 := hd HI7.out.bel
              have r0 := blk_cell HR7.out 0
              have r1 := blk_cell HR7.out 1
              have r2 := blk_cell HR7.out 2
              have r3 := blk_cell HR7.out 3
              have y0 := blk_frozen HR7.out 0
              have y1 := blk_frozen HR7.out 1
              have y2 := blk_frozen HR7.out 2
              have y3 := blk_frozen HR7.out 3
              simp at r0 r1 r2 r3
              go_wp2_with fail
              clear r0 r1 r2 r3 y0 y1 y2 y3
              all_goals
                have r0 := blk_cell HR7.out 0
                have r1 := blk_cell HR7.out 1
                have r2 := blk_cell HR7.out 2
                have r3 := blk_cell HR7.out 3
                simp at r0 r1 r2 r3
                have hq := set4S_blk HR7.out (.string ⟨#[]⟩) (.int .i64 0) (.slice none 0 0) (.slice none 0 0)
                have z0 := blk_cell hq 0
                have z1 := blk_cell hq 1
                have z2 := blk_cell hq 2
                have z3 := blk_cell hq 3
                simp at z0 z1 z2 z3
                have HB5 := hd (set4S_below HB7.out (Nat.le_refl _) (.string ⟨#[]⟩) (.int .i64 0) (.slice none 0 0) (.slice none 0 0))
                change bodyPost _ _ _ _ _ (set4S w7 w.heap.size (.string ⟨#[]⟩) (.int .i64 0) (.slice none 0 0) (.slice none 0 0))
                generalize set4S w7 w.heap.size (.string ⟨#[]⟩) (.int .i64 0) (.slice none 0 0) (.slice none 0 0) = W6 at *
                clear hq r0 r1 r2 r3
                exact bodyPost_ret (v := .tuple #[.agg #[.string ⟨#[]⟩, .int .i64 0, .slice none 0 0, .slice none 0 0], .int .i64 ((k + 1 : Nat) : Int)]) (by simp [results, Tryz.results52, go_sem, z0, z1, z2, z3]) rfl ⟨HB5.out, .inr (.inl ⟨rfl, k, hlt, HKS.out, HKV.out.symm, rfl⟩)⟩
            · have HKS2 := hd (show ∀ i, i < k + 1 → ks.getD i false = true from fun i hi => by
                by_cases e : i = k
                · rw [e]; exact HKV.out.symm
                · exact HKS.out i (by omega))
              have HI8 := hd (show RI w n L M (pfx 0 xs (k + 1)) (pfx false ms (k + 1)) ((w7.setCell ⟨L, k, none⟩ (.float .f32 xv)).setCell ⟨M, k, none⟩ (.bool mv)) from by
                have h := HI7.out.put k xv mv
                rw [HXV.out, HMV.out, pfx_set, pfx_set] at h
                rw [HXV.out, HMV.out]; exact h)
              have c1 := HI7.out.lev.cellAt k (by omega)
              have c2 := HI7.out.lev.frozenAt k
              have c3 := HI7.out.mrk.cellAt k (by omega)
              have c4 := HI7.out.mrk.frozenAt k
              have hLM : L ≠ M := fun e => by
                have h := own_typesS HI7.out.lev HI7.out.mrk (by decide)
                rcases h with h | h
                · cases h
                · exact h (by rw [e])
              have hML := hLM.symm
              rw [show (flc (pfx 0 xs k))[k]? = some (.float .f32 ((pfx 0 xs k).getD k 0)) by simp [flc, pfx, HX.out, hlt]] at c1
              rw [show ((pfx false ms k).map Value.bool)[k]? = some (.bool ((pfx false ms k).getD k false)) by simp [pfx, HM.out, hlt]] at c3
              generalize (pfx 0 xs k).getD k 0 = p1 at c1
              generalize (pfx false ms k).getD k false = p2 at c3
              clear HKS HXV HMV HKV
              go_wp2
              go_roundw
              case rel => exact ⟨k + 1, by omega, by go_num, HI8, HKS2⟩
              case measure => simp [intOf]; omega
        · have hke : k = n := by omega
          subst hke
          have hL := HI.out.lev
          have hM := HI.out.mrk
          rw [← HX.out, pfx_end] at hL
          have hM2 : wr.ownsRow (w.heap.size + 1) 4 1 (.slice (some ⟨M, 0, none⟩) k k) k (ms.map Value.bool) := by
            have h : pfx false ms k = ms := by rw [← HM.out, pfx_end]
            rw [h] at hM; exact hM
          rw [HX.out] at hL
          have HAS := hd (assemble_any NM ST (.slice (some ⟨L, 0, none⟩) k k) (.slice (some ⟨M, 0, none⟩) k k) xs ms wr (by rw [HX.out]; exact rd_of_own hL) (by rw [HM.out]; exact rd_of_own hM2) (by rw [HM.out, HX.out]) (by rw [HX.out]; exact hn))
          have HRW := hd HI.out.res
          have HBW := hd HI.out.bel
          have hws : w.heap.size < wr.heap.size := blk_lt HRW.out
          clear hL hM hM2 HI
          go_wp2_with fail
          refine HAS.out.mono ?_
          rintro e w8 ⟨LV, GV, rfl, ho1, ho2, hb8⟩
          rw [HX.out, misK_not ms k HM.out] at ho2
          rw [HX.out] at ho1
          rw [asmK_len, HX.out] at ho1
          obtain ⟨A1, c1, rfl, -⟩ := own_form ho1
          obtain ⟨A2, c2, rfl, -⟩ := own_form ho2
          have HO1 := hd ho1
          have HO2 := hd ho2
          have HR8 := hd ((hb8.block _ hws).trans HRW.out)
          have HB8 := hd (HBW.out.trans (hb8.mono HBW.out.size))
          clear ho1 ho2 hb8 HRW HBW HAS
          have r0 := blk_cell HR8.out 0
          have r1 := blk_cell HR8.out 1
          have r2 := blk_cell HR8.out 2
          have r3 := blk_cell HR8.out 3
          have y0 := blk_frozen HR8.out 0
          have y1 := blk_frozen HR8.out 1
          have y2 := blk_frozen HR8.out 2
          have y3 := blk_frozen HR8.out 3
          simp at r0 r1 r2 r3
          go_wp2_with fail
          clear r0 r1 r2 r3 y0 y1 y2 y3
          have hq := set4S_blk HR8.out (.string NM) (.int .i64 ST) (.slice A1 k c1) (.slice A2 (strF (ms.map (!·)) k).length c2)
          have z0 := blk_cell hq 0
          have z1 := blk_cell hq 1
          have z2 := blk_cell hq 2
          have z3 := blk_cell hq 3
          simp at z0 z1 z2 z3
          have HB5 := hd (set4S_below HB8.out (Nat.le_refl _) (.string NM) (.int .i64 ST) (.slice A1 k c1) (.slice A2 (strF (ms.map (!·)) k).length c2))
          have HL5 := hd (own_set4S (a := .string NM) (b := .int .i64 ST) (c := .slice A1 k c1) (d := .slice A2 (strF (ms.map (!·)) k).length c2) HO1.out (own_boxS HO1.out HR8.out (by decide)))
          have HG5 := hd (own_set4S (a := .string NM) (b := .int .i64 ST) (c := .slice A1 k c1) (d := .slice A2 (strF (ms.map (!·)) k).length c2) HO2.out (own_boxS HO2.out HR8.out (by decide)))
          change bodyPost _ _ _ _ _ (set4S w8 w.heap.size (.string NM) (.int .i64 ST) (.slice A1 k c1) (.slice A2 (strF (ms.map (!·)) k).length c2))
          generalize set4S w8 w.heap.size (.string NM) (.int .i64 ST) (.slice A1 k c1) (.slice A2 (strF (ms.map (!·)) k).length c2) = W6 at *
          clear hq
          exact bodyPost_ret (v := .tuple #[.agg #[.string NM, .int .i64 ST, .slice A1 k c1, .slice A2 (strF (ms.map (!·)) k).length c2], .int .i64 (N : Int)]) (by simp [results, Tryz.results52, go_sem, z0, z1, z2, z3]) rfl ⟨HB5.out, .inr (.inr ⟨rfl, HKS.out, _, _, by rw [HNN.out], own_base HL5.out (by omega), own_base HG5.out (by omega)⟩)⟩
end Go.Proofs.YtnncmaegmlaabaaGreatDoor
