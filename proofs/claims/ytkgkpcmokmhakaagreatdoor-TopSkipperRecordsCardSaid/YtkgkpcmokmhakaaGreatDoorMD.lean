/-
  Contracts of slices.Clone over levels, and gauge.assemble. Condition: at most 100000 elements.
  Contract of gauge.assemble. Condition: at most 100000 levels, as many marks.
  Contract of gauge.without. Conditions: at most 100000 levels, gaps and indices; the ends of the gaps ascend; each index is one of a level.
-/
import Derived.Test.YtkgkpcmokmhakaaGreatDoorProg
import Derived.Test.YtkgkpcmokmhakaaGreatDoorMC
import Derived.WalkSpells

namespace Go.Proofs.YtkgkpcmokmhakaaGreatDoor
open Go.RowKit

theorem floatInfo : (Tryz.prog.info? 60).map (fun i => (i.zero, i.size, i.bytes)) = some (some (.float .f32 0), 1, 4) := by kernel_rfl

/-- A value that owns levels from base on. -/
def OwnsFl (base : Nat) (l : List Nat) (w : World) (e : Ending) (w' : World) : Prop :=
  ∃ v, e = .returned v ∧ w'.ownsRow base 60 1 v l.length (flc l) ∧ Below base w w'
theorem one_flc (l : List Nat) : ∀ u ∈ flc l, u.oneCell' = true := by
  intro u hu
  simp only [flc, List.mem_map] at hu
  obtain ⟨s, _, rfl⟩ := hu
  rfl

set_option maxRecDepth 1000000 in
set_option maxHeartbeats 2000000 in
theorem cloneFl_some (ad : Addr) (c : Nat) (bs : List Nat) (w : World) (hcell : ∀ j u, (flc bs)[j]? = some u → w.cell? (ad.add j) = some u) (hn : bs.length ≤ 100000) :
    Calls Tryz.prog 60 #[.slice (some ad) bs.length c] w (OwnsFl w.heap.size bs w) := by
  obtain ⟨i0, hi, hz0, hz1, hz2⟩ := info_parts floatInfo
  have qT : ∀ (w : World) (a : Option Addr) (n c n' c' : Nat), (binOp .eql 22 (.slice a n c) (.slice none n' c')).run Tryz.prog w = .ok (.bool a.isNone) w := fun w a n c n' c' => Lib.run_eql_slice_nil w _ _ a n c n' c' Tryz.underlying22
  have h63 : 0 + bs.length ≤ maxLen := by unfold maxLen; omega
  have hby : (0 + bs.length) * 4 ≤ 140737488355328 := by omega
  have H63 := hd h63
  have HBY := hd hby
  have hn' : bs.length ≤ 4611686018427387904 := by omega
  have hcell2 : ∀ o j u, (flc bs)[j]? = some u → (w.alloc o).cell? (ad.add j) = some u := fun o j u hu => by
    have h1 := hcell j u hu
    rw [World.cell?_alloc_lt w o _ (World.block_lt_of_cell? _ _ h1)]
    exact h1
  have HC := hd hcell2
  clear h63 hby hn hcell hcell2
  go_enter Tryz.func60, Tryz.ntmps60
  go_wp2_with (at_builtin; refine wpList_append_own _ rfl (.tmp 5) (.tmp 6) 22 rfl w.heap.size 60 i0 (.float .f32 0) 1 4 Tryz.underlying22 hi hz0 hz1 hz2 rfl (by decide) (.slice (some ⟨w.heap.size, 0, none⟩) 0 0) 0 [] rfl ?c0 ad bs.length c (flc bs) rfl ?c00 ?c1 ?c2 ?c3 ?c4 ?c5 ?_)
  case c0 => exact World.ownsRow_lit w #[] 0 (Nat.le_refl _) (by decide) rfl
  case c00 => simp [flc]
  case c1 => exact HC.out _
  case c2 => exact one_flc bs
  case c3 => exact H63.out
  case c4 => exact HBY.out
  case c5 => simp
  · intro v' w' hown' hgrow hne
    have HO := hd hown'
    have HG := hd hgrow
    clear hown' hgrow hne
    go_wp2
    go_ret
    exact ⟨v', rfl, by simpa using HO.out, ((Below.refl _ w).alloc (Nat.le_refl _) _).grown HG.out (by simp) (fun k hk => by simp [Value.ownBlock] at hk; omega)⟩

theorem cloneFl_any (sl : Value) (bs : List Nat) (w : World) (h : Rd w w.heap.size sl bs.length (flc bs)) (hn : bs.length ≤ 100000) :
    Calls Tryz.prog 60 #[sl] w (OwnsFl w.heap.size bs w) := by
  obtain ⟨A, c, rfl, hc1, hc2, hc⟩ := h
  rcases Nat.eq_zero_or_pos bs.length with h0 | h0
  · obtain rfl : bs = [] := List.eq_nil_of_length_eq_zero h0
    cases A with
    | some ad => exact cloneFl_some ad c [] w (fun j u hu => by simp [flc] at hu) hn
    | none =>
      have qT : ∀ (w : World) (a : Option Addr) (n c n' c' : Nat), (binOp .eql 22 (.slice a n c) (.slice none n' c')).run Tryz.prog w = .ok (.bool a.isNone) w := fun w a n c n' c' => Lib.run_eql_slice_nil w _ _ a n c n' c' Tryz.underlying22
      clear hc hn
      go_enter Tryz.func60, Tryz.ntmps60
      go_wp2
      go_ret
      exact ⟨_, rfl, World.ownsRow_nil _ _ _ _, Below.refl _ _⟩
  · obtain ⟨b, off, rfl, -, hcell⟩ := hc h0
    refine cloneFl_some _ c bs w (fun j u hu => ?_) hn
    have hj : j < (flc bs).length := (List.getElem?_eq_some_iff.1 hu).1
    have e : (⟨b, off, none⟩ : Addr).add j = ⟨b, off + j, none⟩ := by unfold Addr.add; split <;> simp_all
    rw [e, hcell j hj, hu]

end Go.Proofs.YtkgkpcmokmhakaaGreatDoor

namespace Go.Proofs.YtkgkpcmokmhakaaGreatDoor
open Go.RowKit

/-- The levels of which the marked ones are kept, the others 0; of the first k alone. -/
def asmK (bs : List Nat) (ms : List Bool) (k : Nat) : List Nat := (List.range bs.length).map (fun i => if i < k ∧ ms.getD i false = false then 0 else bs.getD i 0)
def misK (ms : List Bool) (n k : Nat) : List Bool := (List.range n).map (fun i => decide (i < k) && !ms.getD i false)
theorem asmK_len (bs : List Nat) (ms : List Bool) (k : Nat) : (asmK bs ms k).length = bs.length := by simp [asmK]
theorem misK_len (ms : List Bool) (n k : Nat) : (misK ms n k).length = n := by simp [misK]
theorem asmK_zero (bs : List Nat) (ms : List Bool) : asmK bs ms 0 = bs := by
  apply List.ext_getElem
  · simp [asmK]
  · intro i h1 h2
    simp [asmK, h2]
theorem misK_zero (ms : List Bool) (n : Nat) : misK ms n 0 = List.replicate n false := by
  apply List.ext_getElem <;> simp [misK]
theorem asmK_keep (bs : List Nat) (ms : List Bool) (k : Nat) (h : ms.getD k false = true) : asmK bs ms (k + 1) = asmK bs ms k := by
  unfold asmK
  apply List.map_congr_left
  intro i _
  by_cases e : i = k
  · subst e; rw [h]; simp
  · simp only [show (i < k + 1) = (i < k) from propext ⟨fun _ => by omega, fun _ => by omega⟩]
theorem misK_keep (ms : List Bool) (n k : Nat) (h : ms.getD k false = true) : misK ms n (k + 1) = misK ms n k := by
  unfold misK
  apply List.map_congr_left
  intro i _
  by_cases e : i = k
  · subst e; rw [h]; simp
  · simp only [show (i < k + 1) = (i < k) from propext ⟨fun _ => by omega, fun _ => by omega⟩]
theorem asmK_drop (bs : List Nat) (ms : List Bool) (k : Nat) (h : ms.getD k false = false) : flc (asmK bs ms (k + 1)) = (flc (asmK bs ms k)).set k (.float .f32 0) := by
  apply List.ext_getElem
  · simp [flc, asmK]
  · intro i h1 h2
    simp only [flc, asmK, List.getElem_map, List.getElem_range, List.getElem_set]
    by_cases e : k = i
    · subst e; rw [if_pos ⟨by omega, h⟩, if_pos rfl]
    · rw [if_neg e]
      simp only [show (i < k + 1) = (i < k) from propext ⟨fun _ => by omega, fun _ => by omega⟩]
theorem misK_drop (ms : List Bool) (n k : Nat) (h : ms.getD k false = false) : (misK ms n (k + 1)).map Value.bool = ((misK ms n k).map Value.bool).set k (.bool true) := by
  apply List.ext_getElem
  · simp [misK]
  · intro i h1 h2
    simp only [misK, List.getElem_map, List.getElem_range, List.getElem_set]
    by_cases e : k = i
    · subst e; rw [h]; simp
    · rw [if_neg e]
      simp only [show (i < k + 1) = (i < k) from propext ⟨fun _ => by omega, fun _ => by omega⟩]

theorem blk_cell {w : World} {g : Nat} {cs : Array Value} {t : TypeId} (h : w.heap[g]? = some (.cells cs t (0, 0))) (i : Nat) : w.cell? ⟨g, i, none⟩ = cs[i]? := by simp [World.cell?, h]
theorem blk_frozen {w : World} {g : Nat} {cs : Array Value} {t : TypeId} (h : w.heap[g]? = some (.cells cs t (0, 0))) (i : Nat) : w.frozen? ⟨g, i, none⟩ = false := by simp [World.frozen?, h]
theorem blk_new (w : World) (cs : Array Value) (t : TypeId) : (w.alloc (.cells cs t)).heap[w.heap.size]? = some (.cells cs t (0, 0)) := by
  show (w.heap.push _)[w.heap.size]? = _
  simp
theorem blk_set {w : World} {g : Nat} {cs : Array Value} {t : TypeId} (h : w.heap[g]? = some (.cells cs t (0, 0))) (i : Nat) (u : Value) : (w.setCell ⟨g, i, none⟩ u).heap[g]? = some (.cells (cs.setIfInBounds i u) t (0, 0)) := by
  simp [World.setCell, Array.getElem?_modify, h]
theorem blk_lt {w : World} {g : Nat} {o : Obj} (h : w.heap[g]? = some o) : g < w.heap.size := by
  rcases Nat.lt_or_ge g w.heap.size with h1 | h1
  · exact h1
  · rw [Array.getElem?_eq_none h1] at h; cases h
theorem own_base {w : World} {B B' : Nat} {e : TypeId} {size : Nat} {v : Value} {n : Nat} {xs : List Value} (h : w.ownsRow B e size v n xs) (hB : B' ≤ B) : w.ownsRow B' e size v n xs := by
  obtain ⟨h1, h2⟩ := h
  refine ⟨h1, ?_⟩
  rcases h2 with h2 | ⟨g, cap, cur, hv, hg, r⟩
  · exact .inl h2
  · exact .inr ⟨g, cap, cur, hv, by omega, r⟩
theorem own_form {w : World} {B : Nat} {e : TypeId} {size : Nat} {v : Value} {n : Nat} {xs : List Value} (h : w.ownsRow B e size v n xs) : ∃ A c, v = .slice A n c ∧ (0 < n → ∃ g, A = some ⟨g, 0, none⟩) := by
  rcases h.2 with ⟨hv, h0⟩ | ⟨g, cap, cur, hv, _⟩
  · exact ⟨none, 0, by rw [hv, h0], fun hp => absurd hp (by omega)⟩
  · exact ⟨_, _, hv, fun _ => ⟨g, rfl⟩⟩

theorem rd_of_own {w : World} {B : Nat} {e : TypeId} {size : Nat} {v : Value} {n : Nat} {xs : List Value} (h : w.ownsRow B e size v n xs) : Rd w w.heap.size v n xs := by
  have hl := h.1
  have hlt := h.lt
  rcases h.2 with ⟨rfl, rfl⟩ | ⟨g, cap, cur, rfl, _, _, h1, h2, _, _⟩
  · exact ⟨none, 0, rfl, Nat.le_refl _, Nat.zero_le _, fun hp => absurd hp (by omega)⟩
  · refine ⟨_, cap, rfl, h1, h2, fun _ => ⟨g, 0, rfl, (hlt g rfl).2, fun j hj => ?_⟩⟩
    rw [Nat.zero_add]
    exact h.cellAt j (by omega)

/-- A record of the call's own. -/
def OwnsRec (base : Nat) (nm : ByteArray) (st : Int) (bs : List Nat) (gs : List (Int × Int)) (w : World) (e : Ending) (w' : World) : Prop :=
  ∃ lv gv, e = .returned (.agg #[.string nm, .int .i64 st, lv, gv]) ∧ w'.ownsRow base 60 1 lv bs.length (flc bs) ∧ w'.ownsRow base 50 2 gv gs.length (spc gs) ∧ Below base w w'

set_option maxRecDepth 1000000 in
set_option maxHeartbeats 4000000 in
theorem assemble_any (nm : ByteArray) (st : Int) (lv mv : Value) (bs : List Nat) (ms : List Bool) (w : World) (hl : Rd w w.heap.size lv bs.length (flc bs)) (hm : Rd w w.heap.size mv ms.length (ms.map Value.bool)) (he : ms.length = bs.length) (hn : bs.length ≤ 100000) :
    Calls Tryz.prog 65 #[.string nm, .int .i64 st, lv, mv] w (OwnsRec w.heap.size nm st (asmK bs ms bs.length) (strF (misK ms bs.length bs.length) bs.length) w) := by
  rw [he] at hm
  obtain ⟨A, c, rfl, hc1, hc2, hcm⟩ := hm
  obtain ⟨i0, hi, hz0, hz1, hz2⟩ := info_parts boolInfo
  unfold maxLen at hc2
  have HL := hd hl
  have HM := hd hcm
  have HB := hd (show i0.bytes * bs.length ≤ 281474976710656 by rw [hz2]; omega)
  have HMX := hd (show bs.length ≤ maxLen by unfold maxLen; omega)
  have hn63 : bs.length ≤ 9223372036854775807 := by omega
  have HN := hd hn
  have HEQ := hd he
  clear hl hcm hn he
  go_enter Tryz.func65, Tryz.ntmps65
  go_wp2_with fail
  have hb0 : Below w.heap.size w (w.alloc (Obj.cells #[.string ⟨#[]⟩, .int .i64 0, .slice none 0 0, .slice none 0 0] 35)) := (Below.refl w.heap.size w).alloc (Nat.le_refl _) _
  have hr0 := blk_new w #[.string ⟨#[]⟩, .int .i64 0, .slice none 0 0, .slice none 0 0] 35
  have hs0 : w.heap.size < (w.alloc (Obj.cells #[.string ⟨#[]⟩, .int .i64 0, .slice none 0 0, .slice none 0 0] 35)).heap.size := by simp
  generalize (w.alloc (Obj.cells #[.string ⟨#[]⟩, .int .i64 0, .slice none 0 0, .slice none 0 0] 35)) = W0 at hb0 hr0 hs0 ⊢
  have HR0 := hd hr0
  clear hr0
  refine (cloneFl_any _ bs _ ((HL.out.below hb0 (Nat.le_refl _)).mono hb0.size) HN.out).mono ?_
  rintro e w1 ⟨v1, rfl, hown1, hb1⟩
  obtain ⟨A1, c1, rfl, hA1⟩ := own_form hown1
  have hgl := fun g hg => (hown1.lt g hg).2
  have HO1 := hd hown1
  have HGL := hd hgl
  have HA1 := hd hA1
  have hs1 := hb1.size
  clear hown1 hgl hA1
  go_wp2_with (at_make; refine wpList_make_full _ rfl (.tmp 19) (.tmp 19) 92 rfl W0.heap.size 4 i0 (.bool false) 1 Tryz.underlying92 hi hz0 hz1 .i64 .i64 (bs.length : Int) (bs.length : Int) bs.length rfl rfl rfl rfl HB.out HMX.out (by simp; omega) ?_; intro w2 hown2 hgrow2)
  have hbb : Below W0.heap.size W0 w2 := (hb1.alloc hb1.size _).grown hgrow2 (by simp; omega) (fun _ h => by cases h)
  have HBX := hd (show w2.heap[w1.heap.size]? = some (.cells #[.string nm, .int .i64 st, .slice A1 bs.length c1, .slice none 0 0] 35 (0, 0)) from (hgrow2.block _ (by simp) (by simp)).trans (blk_new _ _ _))
  have HOL := hd (show w2.ownsRow W0.heap.size 60 1 (.slice A1 bs.length c1) bs.length (flc (asmK bs ms 0)) by rw [asmK_zero]; exact (HO1.out.alloc _).kept hgrow2 (by rcases HO1.out.2 with ⟨h, _⟩ | ⟨g, _, _, h, _⟩ <;> rw [h] <;> simp [Value.ownBlock]))
  have HOM := hd (show w2.ownsRow W0.heap.size 4 1 (.slice (some ⟨w1.heap.size + 1, 0, none⟩) bs.length bs.length) bs.length ((misK ms bs.length 0).map Value.bool) by
    rw [misK_zero, List.map_replicate]
    have e : (madeCells (Value.bool false).cells (bs.length * 1)).toList = List.replicate bs.length (Value.bool false) := by
      rw [show (Value.bool false).cells = #[Value.bool false] from rfl, toList_madeCells_one]; simp
    rw [← e]; simpa using hown2)
  have hsz2 : w1.heap.size + 1 < w2.heap.size := (HOM.out.lt _ rfl).2
  clear hown2 hgrow2 hb1
  go_wp2
  go_loopw [23] (fun i wr => ∃ k : Nat, k ≤ bs.length ∧ i = .int .i64 k ∧ wr.ownsRow W0.heap.size 60 1 (.slice A1 bs.length c1) bs.length (flc (asmK bs ms k)) ∧ wr.ownsRow W0.heap.size 4 1 (.slice (some ⟨w1.heap.size + 1, 0, none⟩) bs.length bs.length) bs.length ((misK ms bs.length k).map Value.bool) ∧
      Below W0.heap.size W0 wr ∧ Hid (wr.heap[w1.heap.size]? = some (.cells #[.string nm, .int .i64 st, .slice A1 bs.length c1, .slice none 0 0] 35 (0, 0)))) (fun i _ => bs.length - (intOf i).toNat)
  case atStart => exact ⟨0, Nat.zero_le _, rfl, HOL.out, HOM.out, hbb, HBX⟩
  case round =>
    obtain ⟨k, hk, rfl, hol, hom, hb, HX⟩ := hrel
    have HOL2 := hd hol
    have HOM2 := hd hom
    by_cases hlt : k < bs.length
    · obtain ⟨bm, off, rfl, hbm, hcell⟩ := HM.out (by omega)
      have hx : wr.cell? ⟨bm, off + k, none⟩ = some (.bool (ms.getD k false)) := by
        have h1 : W0.cell? ⟨bm, off + k, none⟩ = w.cell? ⟨bm, off + k, none⟩ := hb0.cell (p := ⟨bm, _, none⟩) hbm
        have h2 : wr.cell? ⟨bm, off + k, none⟩ = W0.cell? ⟨bm, off + k, none⟩ := hb.cell (p := ⟨bm, _, none⟩) (Nat.lt_trans hbm hs0)
        rw [h2, h1, hcell k (by rw [List.length_map, HEQ.out]; exact hlt)]
        simp [show k < ms.length by rw [HEQ.out]; exact hlt]
      clear hcell hol hom
      have hxd := hd (show ms.getD k false = ms.getD k false from rfl)
      by_cases hmk : ms.getD k false = true
      · have HK1 := hd (asmK_keep bs ms k hmk)
        have HK2 := hd (misK_keep ms bs.length k hmk)
        rw [hmk] at hx
        clear hmk hxd
        go_wp2
        go_roundw
        case rel => exact ⟨k + 1, by omega, by go_num, by rw [HK1.out]; exact HOL2.out, by rw [HK2.out]; exact HOM2.out, hb, HX⟩
        case measure => simp [intOf]; omega
      · have hmk' : ms.getD k false = false := by simpa using hmk
        have HK1 := hd (asmK_drop bs ms k hmk')
        have HK2 := hd (misK_drop ms bs.length k hmk')
        rw [hmk'] at hx
        obtain ⟨g, rfl⟩ := HA1.out (by omega)
        have hgw : g < w1.heap.size := HGL.out g rfl
        have q1 := HOM2.out.cellAt k (by omega)
        have q2 := HOM2.out.frozenAt k
        rw [show ((misK ms bs.length k).map Value.bool)[k]? = some (.bool ((misK ms bs.length k).getD k false)) by simp [misK, hlt]] at q1
        have hst := HOM2.out.stored k (.bool true)
        have hol3 := HOL2.out.kept hst.2 (.inr (by simp [Value.ownBlock]; omega))
        have r1 := hol3.cellAt k (by omega)
        have r2 := hol3.frozenAt k
        rw [show (flc (asmK bs ms k))[k]? = some (.float .f32 ((asmK bs ms k).getD k 0)) by simp [flc, asmK, hlt]] at r1
        have hx3 : (wr.setCell ⟨w1.heap.size + 1, k, none⟩ (.bool true)).heap[w1.heap.size]? = _ := (Below.heap_setCell wr ⟨w1.heap.size + 1, k, none⟩ (.bool true) _ (by simp)).trans HX.out
        have x2 := blk_cell hx3 2
        have hst2 := hol3.stored k (.float .f32 0)
        have HM3 := hd ((hst.1).kept hst2.2 (.inr (by simp [Value.ownBlock]; omega)))
        have HL3 := hd hst2.1
        have HX3 := hd ((Below.heap_setCell _ ⟨g, k, none⟩ (.float .f32 0) _ (by simp; omega)).trans hx3)
        generalize (misK ms bs.length k).getD k false = y1 at q1
        have s1 := HOL2.out.cellAt k (by omega)
        have s2 := HOL2.out.frozenAt k
        rw [show (flc (asmK bs ms k))[k]? = some (.float .f32 ((asmK bs ms k).getD k 0)) by simp [flc, asmK, hlt]] at s1
        generalize (asmK bs ms k).getD k 0 = y2 at r1 s1
        have hne1 : ¬ w1.heap.size + 1 = g := by omega
        have hne2 : ¬ g = w1.heap.size + 1 := by omega
        have x2' : (wr.setCell ⟨w1.heap.size + 1, k, none⟩ (.bool true)).cell? ⟨w1.heap.size, 2, none⟩ = some (.slice (some ⟨g, 0, none⟩) bs.length c1) := by simpa using x2
        have HBW := hd ((hb.setCell (p := ⟨w1.heap.size + 1, k, none⟩) (by simp; omega) (.bool true)).setCell (p := ⟨g, k, none⟩) (HO1.out.lt g rfl).1 (.float .f32 0))
        clear hst hst2 hol3 hx3 x2 hmk hmk' hxd
        go_wp2
        go_roundw
        case rel => exact ⟨k + 1, by omega, by go_num, by rw [HK1.out]; exact HL3.out, by rw [HK2.out]; exact HM3.out, HBW.out, HX3⟩
        case measure => simp [intOf]; omega
    · have hke : k = bs.length := by omega
      subst hke
      clear hol hom hlt hk
      go_wp2_with fail
      refine (stretches_any _ (misK ms bs.length bs.length) _ (by rw [misK_len]; exact rd_of_own HOM2.out) (by rw [misK_len]; exact HN.out)).mono ?_
      rintro e w3 ⟨gv, rfl, hog, hb3⟩
      rw [misK_len] at hog
      obtain ⟨A3, c3, hv3, -⟩ := own_form hog
      subst hv3
      have HG3 := hd hog
      have hX3 := (hb3.block _ (blk_lt HX.out)).trans HX.out
      have x0 := blk_cell hX3 0
      have x1 := blk_cell hX3 1
      have x2 := blk_cell hX3 2
      have x3 := blk_cell hX3 3
      have xf := fun i => blk_frozen hX3 i
      have hb4 := hb.trans (hb3.mono hb.size)
      have hR3 := (hb4.block _ hs0).trans HR0.out
      have y0 := blk_cell hR3 0
      have y1 := blk_cell hR3 1
      have y2 := blk_cell hR3 2
      have y3 := blk_cell hR3 3
      have yf := fun i => blk_frozen hR3 i
      have HB4 := hd hb4
      have HB3 := hd hb3
      simp at x0 x1 x2 x3 y0 y1 y2 y3
      have hne1 : ¬ w.heap.size = w1.heap.size := by omega
      have hne2 : ¬ w1.heap.size = w.heap.size := by omega
      have HB3w := hd hb.size
      clear hog hX3 hb4 hb3 hb
      obtain ⟨S, hS⟩ : ∃ S, S = Value.slice A3 (strF (misK ms bs.length bs.length) bs.length).length c3 := ⟨_, rfl⟩
      have HS := hd hS
      have L3 := (HOL2.out.kept (below_gb HB3.out none) (by rcases HO1.out.2 with ⟨h, _⟩ | ⟨g, _, _, h, _⟩ <;> rw [h] <;> simp [Value.ownBlock])).kept (gb_set _ w1.heap.size 3 S) (by
        cases A1 with
        | none => exact .inl rfl
        | some ad => exact .inr (by intro h; have := HGL.out ad.block rfl; simp only [Value.ownBlock, Option.some.injEq] at h; omega))
      have G3 := ownsRow_setCell_below HG3.out (a := ⟨w1.heap.size, 3, none⟩) (blk_lt HX.out) S
      have G3' := own_base G3 HB3w.out
      have B3 := (hb0.trans (HB4.out.mono hb0.size)).setCell (p := ⟨w1.heap.size, 3, none⟩) (by show w.heap.size ≤ w1.heap.size; omega) S
      have R3 : (w3.setCell ⟨w1.heap.size, 3, none⟩ S).heap[w.heap.size]? = _ := (Below.heap_setCell w3 ⟨w1.heap.size, 3, none⟩ S _ hne1).trans hR3
      have R7 := blk_set (blk_set (blk_set (blk_set R3 0 (.string nm)) 1 (.int .i64 st)) 2 (.slice A1 bs.length c1)) 3 S
      have z := fun i => blk_cell R7 i
      have z0 := z 0
      have z1 := z 1
      have z2 := z 2
      have z3 := z 3
      simp at z0 z1 z2 z3
      have L7 := own_base (ownsRow_setCell_below (ownsRow_setCell_below (ownsRow_setCell_below (ownsRow_setCell_below L3 (a := ⟨w.heap.size, 0, none⟩) hs0 (.string nm)) (a := ⟨w.heap.size, 1, none⟩) hs0 (.int .i64 st)) (a := ⟨w.heap.size, 2, none⟩) hs0 (.slice A1 bs.length c1)) (a := ⟨w.heap.size, 3, none⟩) hs0 S) (Nat.le_of_lt hs0)
      have G7 := own_base (ownsRow_setCell_below (ownsRow_setCell_below (ownsRow_setCell_below (ownsRow_setCell_below G3' (a := ⟨w.heap.size, 0, none⟩) hs0 (.string nm)) (a := ⟨w.heap.size, 1, none⟩) hs0 (.int .i64 st)) (a := ⟨w.heap.size, 2, none⟩) hs0 (.slice A1 bs.length c1)) (a := ⟨w.heap.size, 3, none⟩) hs0 S) (Nat.le_of_lt hs0)
      have B7 := (((B3.setCell (p := ⟨w.heap.size, 0, none⟩) (Nat.le_refl _) (.string nm)).setCell (p := ⟨w.heap.size, 1, none⟩) (Nat.le_refl _) (.int .i64 st)).setCell (p := ⟨w.heap.size, 2, none⟩) (Nat.le_refl _) (.slice A1 bs.length c1)).setCell (p := ⟨w.heap.size, 3, none⟩) (Nat.le_refl _) S
      obtain ⟨W7, hW7⟩ : ∃ W7, W7 = ((((w3.setCell ⟨w1.heap.size, 3, none⟩ S).setCell ⟨w.heap.size, 0, none⟩ (.string nm)).setCell ⟨w.heap.size, 1, none⟩ (.int .i64 st)).setCell ⟨w.heap.size, 2, none⟩ (.slice A1 bs.length c1)).setCell ⟨w.heap.size, 3, none⟩ S := ⟨_, rfl⟩
      rw [← hW7] at z0 z1 z2 z3 L7 G7 B7
      have HW7 := hd hW7
      have HL7 := hd L7
      have HG7 := hd G7
      have HB7 := hd B7
      have HZ := hd (And.intro z0 (And.intro z1 (And.intro z2 z3)))
      clear hS L3 G3 G3' B3 R3 R7 z z0 z1 z2 z3 L7 G7 B7 hW7 hR3
      go_wp2
      rw [← HS.out, ← HW7.out]
      obtain ⟨z0, z1, z2, z3⟩ := HZ.out
      exact bodyPost_ret (v := .agg #[.string nm, .int .i64 st, .slice A1 bs.length c1, S]) (by simp [results, Tryz.results65, go_sem, z0, z1, z2, z3]) rfl ⟨_, _, rfl, by rw [asmK_len]; exact HL7.out, by rw [HS.out]; exact HG7.out, HB7.out⟩

end Go.Proofs.YtkgkpcmokmhakaaGreatDoor

namespace Go.Proofs.YtkgkpcmokmhakaaGreatDoor
open Go.RowKit

def inc (il : List Nat) : List Value := il.map (fun i : Nat => Value.int .i64 (i : Int))
def offK (ms : List Bool) (il : List Nat) (k : Nat) : List Bool := (il.take k).foldl (fun m i => m.set i false) ms
theorem offK_succ (ms : List Bool) (il : List Nat) (k : Nat) (h : k < il.length) : offK ms il (k + 1) = (offK ms il k).set (il.getD k 0) false := by
  unfold offK
  rw [List.take_add_one, List.foldl_append, List.getElem?_eq_getElem h]
  simp only [Option.toList_some, List.foldl_cons, List.foldl_nil, List.getD_eq_getElem?_getD, List.getElem?_eq_getElem h, Option.getD_some]
theorem offK_len (ms : List Bool) (il : List Nat) : ∀ k, k ≤ il.length → (offK ms il k).length = ms.length
  | 0, _ => rfl
  | k + 1, h => by rw [offK_succ ms il k (by omega), List.length_set, offK_len ms il k (by omega)]

/-- What 'without' leaves. -/
def wout (bs : List Nat) (gs : List (Int × Int)) (il : List Nat) : List Bool := offK (knL gs bs.length) il il.length

set_option maxRecDepth 1000000 in
set_option maxHeartbeats 4000000 in
theorem without_any (nm : ByteArray) (st : Int) (lv gv iv : Value) (bs : List Nat) (gs : List (Int × Int)) (il : List Nat) (w : World) (hl : Rd w w.heap.size lv bs.length (flc bs)) (hg : Rd w w.heap.size gv gs.length (spc gs)) (hx : Rd w w.heap.size iv il.length (inc il))
    (hasc : Asc gs) (hgs : gs.length ≤ 100000) (hbs : bs.length ≤ 100000) (hil : ∀ j, j < il.length → il.getD j 0 < bs.length) (hin : il.length ≤ 100000) :
    Calls Tryz.prog 68 #[.agg #[.string nm, .int .i64 st, lv, gv], iv] w (OwnsRec w.heap.size nm st (asmK bs (wout bs gs il) bs.length) (strF (misK (wout bs gs il) bs.length bs.length) bs.length) w) := by
  have HL := hd hl
  have HG := hd hg
  have hl2 := hl
  have hg2 := hg
  obtain ⟨A1, c1, rfl, -, -, -⟩ := hl2
  obtain ⟨A2, c2, rfl, -, -, -⟩ := hg2
  obtain ⟨A3, c3, rfl, hc1, hc2, hcm⟩ := hx
  unfold maxLen at hc2
  have HX := hd hcm
  have HC := hd (And.intro hasc (And.intro hgs (And.intro hbs hil)))
  have hn63 : il.length ≤ 9223372036854775807 := by omega
  clear hl hg hasc hgs hcm hil
  go_enter Tryz.func68, Tryz.ntmps68
  go_wp2_with fail
  obtain ⟨W0, hW0⟩ : ∃ W0, W0 = ((w.alloc (.cells #[.string nm, .int .i64 st, .slice A1 bs.length c1, .slice A2 gs.length c2] 35)).alloc (.cells #[.string ⟨#[]⟩, .int .i64 0, .slice none 0 0, .slice none 0 0] 35)) := ⟨_, rfl⟩
  have hsz : W0.heap.size = w.heap.size + 2 := by rw [hW0]; simp
  have hb0 : Below w.heap.size w W0 := by rw [hW0]; exact ((Below.refl _ w).alloc (Nat.le_refl _) _).alloc (by simp) _
  have HRA := hd (show W0.heap[w.heap.size]? = some (.cells #[.string nm, .int .i64 st, .slice A1 bs.length c1, .slice A2 gs.length c2] 35 (0, 0)) by
    rw [hW0, Below.heap_alloc _ _ _ (by simp)]; exact blk_new _ _ _)
  have HRB := hd (show W0.heap[w.heap.size + 1]? = some (.cells #[.string ⟨#[]⟩, .int .i64 0, .slice none 0 0, .slice none 0 0] 35 (0, 0)) by
    have h1 := blk_new (w.alloc (.cells #[.string nm, .int .i64 st, .slice A1 bs.length c1, .slice A2 gs.length c2] 35)) #[.string ⟨#[]⟩, .int .i64 0, .slice none 0 0, .slice none 0 0] 35
    simp only [World.size_alloc] at h1
    rw [hW0]; exact h1)
  rw [← hW0]
  clear hW0
  refine (known_any nm st _ _ bs.length (flc bs) gs _ ((HL.out.below hb0 (Nat.le_refl _)).mono hb0.size) ((HG.out.below hb0 (Nat.le_refl _)).mono hb0.size) HC.out.1 HC.out.2.1 HC.out.2.2.1).mono ?_
  rintro e w1 ⟨v1, rfl, hown1, hb1⟩
  rw [knL_len] at hown1
  obtain ⟨A4, c4, rfl, hA4⟩ := own_form hown1
  have HGL := hd (fun g hg => (hown1.lt g hg).2)
  have HGW := hd (fun g hg => (hown1.lt g hg).1)
  have HA4 := hd hA4
  have HO1 := hd (show w1.ownsRow W0.heap.size 4 1 (.slice A4 bs.length c4) bs.length ((offK (knL gs bs.length) il 0).map Value.bool) from hown1)
  clear hown1 hA4
  go_wp2
  go_loopw [12] (fun i wr => ∃ k : Nat, k ≤ il.length ∧ i = .int .i64 k ∧ wr.ownsRow W0.heap.size 4 1 (.slice A4 bs.length c4) bs.length ((offK (knL gs bs.length) il k).map Value.bool) ∧ Below W0.heap.size W0 wr) (fun i _ => il.length - (intOf i).toNat)
  case atStart => exact ⟨0, Nat.zero_le _, rfl, HO1.out, hb1⟩
  case round =>
    obtain ⟨k, hk, rfl, hom, hb⟩ := hrel
    have HOM := hd hom
    have hml : (offK (knL gs bs.length) il k).length = bs.length := by rw [offK_len _ _ _ hk, knL_len]
    by_cases hlt : k < il.length
    · obtain ⟨bm, off, rfl, hbm, hcell⟩ := HX.out (by omega)
      have hi := HC.out.2.2.2 k hlt
      have hx : wr.cell? ⟨bm, off + k, none⟩ = some (.int .i64 ((il.getD k 0 : Nat) : Int)) := by
        rw [hb.cell (p := ⟨bm, _, none⟩) (by show bm < _; omega), hb0.cell (p := ⟨bm, _, none⟩) hbm, hcell k (by simpa [inc] using hlt)]
        simp [inc, hlt]
      have HK := hd (offK_succ (knL gs bs.length) il k hlt)
      generalize il.getD k 0 = ix at hx hi HK
      obtain ⟨g, rfl⟩ := HA4.out (by omega)
      have q1 := hom.cellAt ix (by omega)
      have q2 := hom.frozenAt ix
      rw [show ((offK (knL gs bs.length) il k).map Value.bool)[ix]? = some (.bool ((offK (knL gs bs.length) il k).getD ix false)) by simp [hml, hi]] at q1
      generalize (offK (knL gs bs.length) il k).getD ix false = y1 at q1
      have HST := hd (hom.stored ix (.bool false)).1
      have HBW := hd (hb.setCell (p := ⟨g, ix, none⟩) (HGW.out g rfl) (.bool false))
      clear hcell hom hml
      go_wp2
      go_roundw
      case rel => exact ⟨k + 1, by omega, by go_num, by rw [HK.out, List.map_set]; exact HST.out, HBW.out⟩
      case measure => simp [intOf]; omega
    · have hke : k = il.length := by omega
      subst hke
      have HB := hd hb
      have hRA := (hb.block _ (show w.heap.size < W0.heap.size by omega)).trans HRA.out
      have y0 := blk_cell hRA 0
      have y1 := blk_cell hRA 1
      have y2 := blk_cell hRA 2
      have y3 := blk_cell hRA 3
      simp at y0 y1 y2 y3
      have HML := hd hml
      have hbs2 := hb.size
      clear hom hb hlt hk hRA hml
      go_wp2_with fail
      have hb01 := hb0.trans (HB.out.mono hb0.size)
      refine (assemble_any nm st _ _ bs (offK (knL gs bs.length) il il.length) _ ((HL.out.below hb01 (Nat.le_refl _)).mono hb01.size) (by rw [HML.out]; exact rd_of_own HOM.out) HML.out HC.out.2.2.1).mono ?_
      rintro e w3 ⟨lv, gv, rfl, hol, hog, hb3⟩
      rw [asmK_len] at hol
      obtain ⟨A5, c5, hv5, -⟩ := own_form hol
      obtain ⟨A6, c6, hv6, -⟩ := own_form hog
      obtain ⟨LV, hLV⟩ : ∃ v, v = lv := ⟨_, rfl⟩
      obtain ⟨GV, hGV⟩ : ∃ v, v = gv := ⟨_, rfl⟩
      have hR3 := (hb3.block _ (show w.heap.size + 1 < wr.heap.size by omega)).trans ((HB.out.block _ (show w.heap.size + 1 < W0.heap.size by omega)).trans HRB.out)
      have x0 := blk_cell hR3 0
      have x1 := blk_cell hR3 1
      have x2 := blk_cell hR3 2
      have x3 := blk_cell hR3 3
      have xf := fun i => blk_frozen hR3 i
      simp at x0 x1 x2 x3
      have R7 := blk_set (blk_set (blk_set (blk_set hR3 0 (.string nm)) 1 (.int .i64 st)) 2 lv) 3 gv
      have z := fun i => blk_cell R7 i
      have z0 := z 0
      have z1 := z 1
      have z2 := z 2
      have z3 := z 3
      simp at z0 z1 z2 z3
      have hq : w.heap.size + 1 < wr.heap.size := by omega
      have L7 := ownsRow_setCell_below (ownsRow_setCell_below (ownsRow_setCell_below (ownsRow_setCell_below hol (a := ⟨w.heap.size + 1, 0, none⟩) hq (.string nm)) (a := ⟨w.heap.size + 1, 1, none⟩) hq (.int .i64 st)) (a := ⟨w.heap.size + 1, 2, none⟩) hq lv) (a := ⟨w.heap.size + 1, 3, none⟩) hq gv
      have G7 := ownsRow_setCell_below (ownsRow_setCell_below (ownsRow_setCell_below (ownsRow_setCell_below hog (a := ⟨w.heap.size + 1, 0, none⟩) hq (.string nm)) (a := ⟨w.heap.size + 1, 1, none⟩) hq (.int .i64 st)) (a := ⟨w.heap.size + 1, 2, none⟩) hq lv) (a := ⟨w.heap.size + 1, 3, none⟩) hq gv
      have B3 := hb01.trans (hb3.mono hb01.size)
      have hp : w.heap.size ≤ w.heap.size + 1 := by omega
      have B7 := (((B3.setCell (p := ⟨w.heap.size + 1, 0, none⟩) hp (.string nm)).setCell (p := ⟨w.heap.size + 1, 1, none⟩) hp (.int .i64 st)).setCell (p := ⟨w.heap.size + 1, 2, none⟩) hp lv).setCell (p := ⟨w.heap.size + 1, 3, none⟩) hp gv
      obtain ⟨W7, hW7⟩ : ∃ W7, W7 = (((w3.setCell ⟨w.heap.size + 1, 0, none⟩ (.string nm)).setCell ⟨w.heap.size + 1, 1, none⟩ (.int .i64 st)).setCell ⟨w.heap.size + 1, 2, none⟩ lv).setCell ⟨w.heap.size + 1, 3, none⟩ gv := ⟨_, rfl⟩
      rw [← hW7] at z0 z1 z2 z3 L7 G7 B7
      have HL7 := hd (own_base L7 (Nat.le_of_lt (Nat.lt_of_le_of_lt hp hq)))
      have HG7 := hd (own_base G7 (Nat.le_of_lt (Nat.lt_of_le_of_lt hp hq)))
      have HB7 := hd B7
      have HZ := hd (And.intro z0 (And.intro z1 (And.intro z2 z3)))
      have HW7 := hd hW7
      subst hv5
      subst hv6
      clear hR3 R7 z z0 z1 z2 z3 L7 G7 B3 B7 hW7 hol hog hb3 hb01 hLV hGV
      go_wp2
      rw [← HW7.out]
      obtain ⟨z0, z1, z2, z3⟩ := HZ.out
      exact bodyPost_ret (v := .agg #[.string nm, .int .i64 st, .slice A5 bs.length c5, .slice A6 (strF (misK (offK (knL gs bs.length) il il.length) bs.length bs.length) bs.length).length c6]) (by simp [results, Tryz.results68, go_sem, z0, z1, z2, z3]) rfl ⟨_, _, rfl, by rw [asmK_len]; exact HL7.out, HG7.out, HB7.out⟩

end Go.Proofs.YtkgkpcmokmhakaaGreatDoor
