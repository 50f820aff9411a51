/-
  Contract of gauge.ballots. Conditions: three valid records with the same number of levels.
-/
import Derived.Test.YtkgkpcmokmhakaaGreatDoorProg
import Derived.Test.YtkgkpcmokmhakaaGreatDoorML
import Derived.Test.YtkgkpcmokmhakaaGreatDoorOrd
import Derived.LoopNIn
import Derived.Shelf.RegionOpen
namespace Go.Proofs.YtkgkpcmokmhakaaGreatDoor
open Go.RowKit Go.Shelf
attribute [local go_sem] Oper.semAt_some
attribute [local go_sem, local simp] wide_fn

/-- What the ballots hand back: a row of n ballots of the call's own. -/
def OwnsBal (base n : Nat) (F : Bal) (w : World) (e : Ending) (w' : World) : Prop :=
  ∃ v, e = .returned v ∧ w'.ownsRow base 129 6 v n (cellsB n F) ∧ Below base w w'

theorem madeBal (n : Nat) (bs : Nat → List Nat) (gs : Nat → List (Int × Int)) : (madeCells (Value.agg #[.float .f32 0, .float .f32 0, .float .f32 0, .bool false, .bool false, .bool false]).cells (n * 6)).toList = cellsB n (balF bs gs 0) := by
  apply List.ext_getElem
  · simp [size_madeCells, cellsB]; omega
  · intro j h1 h2
    have hr : j % 6 < 6 := Nat.mod_lt _ (by omega)
    simp only [madeCells, cellsB, Array.getElem_toList, Array.getElem_map, Array.getElem_range, List.getElem_map, List.getElem_range]
    show (#[Value.float .f32 0, .float .f32 0, .float .f32 0, .bool false, .bool false, .bool false] : Array Value)[j % 6]! = cellF (balF bs gs 0) (j / 6) (j % 6)
    generalize j % 6 = r at hr ⊢
    rcases (show r = 0 ∨ r = 1 ∨ r = 2 ∨ r = 3 ∨ r = 4 ∨ r = 5 by omega) with rfl | rfl | rfl | rfl | rfl | rfl <;> rfl

/-- Objects that stand for the loops' deferred calls. -/
def Kd (Ds : List Nat) (W : World) : Prop := ∀ D, D ∈ Ds → W.heap[D]? = some (Obj.deferred (some []))
theorem Kd.block {Ds : List Nat} {W W' : World} (h : Kd Ds W) (hb : ∀ D, D ∈ Ds → W'.heap[D]? = W.heap[D]?) : Kd Ds W' := fun D hD => (hb D hD).trans (h D hD)
theorem Kd.below {Ds : List Nat} {W W' : World} (h : Kd Ds W) (hb : Below W.heap.size W W') : Kd Ds W' := h.block fun D hD => hb.block D (blk_lt (h D hD))
theorem ownFrom_kd {β : Type} {B : Nat} {Ds : List Nat} (hB : ∀ D, D ∈ Ds → D < B) : OwnFrom B (fun (_ : β) W => Kd Ds W) :=
  fun _ X Y row hs hg hr => hs.block fun D hD => hg.block D (blk_lt (hs D hD)) (fun e => by have := (hr D e.symm).1; have := hB D hD; omega)
theorem own_blk {W : World} {B g n c : Nat} {e : TypeId} {s : Nat} {xs : List Value} (h : W.ownsRow B e s (.slice (some ⟨g, 0, none⟩) n c) n xs) : ∃ cs, W.heap[g]? = some (.cells cs e (0, 0)) := by
  rcases h.2 with ⟨hv, _⟩ | ⟨g', cap, cur, hv, _, hg, _⟩
  · cases hv
  · cases hv; exact ⟨_, hg⟩
theorem own_drew {W : World} {B n : Nat} {e : TypeId} {s : Nat} {v : Value} {xs : List Value} (h : W.ownsRow B e s v n xs) : ({ W with drawn := W.drawn + 1 } : World).ownsRow B e s v n xs := h
theorem Kd.set {Ds : List Nat} {W : World} (h : Kd Ds W) {X i : Nat} {u : Value} {cs : Array Value} {t : TypeId} (hX : W.heap[X]? = some (.cells cs t (0, 0))) : Kd Ds (W.setCell ⟨X, i, none⟩ u) :=
  h.block fun D hD => Below.heap_setCell W ⟨X, i, none⟩ u D (fun e => by rw [show D = X from e] at hD; have := h X hD; rw [hX] at this; cases this)

set_option maxRecDepth 1000000 in
set_option maxHeartbeats 8000000 in
theorem ballots_in (nm : Nat → ByteArray) (st : Nat → Int) (lv gv : Nat → Value) (bs : Nat → List Nat) (gs : Nat → List (Int × Int)) (n : Nat) (w : World) (hl : ∀ g, g < 3 → Rd w w.heap.size (lv g) (bs g).length (flc (bs g))) (hg : ∀ g, g < 3 → Rd w w.heap.size (gv g) (gs g).length (spc (gs g))) (V : ∀ g, g < 3 → Valid (nm g) (st g) (bs g) (gs g)) (hn : ∀ g, g < 3 → (bs g).length = n) :
    CallsIn Fence.wide 5 Tryz.prog 62 #[.agg (rec3 nm st lv gv)] w (OwnsBal w.heap.size n (balF bs gs 3) w) := by
  obtain ⟨i0, hi, hz0, hz1, hz2⟩ := info_parts balInfo
  have HV := hd V
  have HL0 := hd (hl 0 (by omega))
  have HG0 := hd (hg 0 (by omega))
  obtain ⟨A0, c0', hl0, hq10, hq20, -⟩ := hl 0 (by omega)
  obtain ⟨B0, d0', hg0, -⟩ := hg 0 (by omega)
  have hn0 := hn 0 (by omega)
  have hb0 := (V 0 (by omega)).most
  have hgl0 : (gs 0).length ≤ 100000 := Nat.le_trans (chkSpans_ok (gs 0) (V 0 (by omega)).spans).1 (by omega)
  unfold maxLen at hq20
  have ix0 := fun w => idx3r nm st lv gv 0 (by omega) w
  unfold rec3 at ix0
  have HL1 := hd (hl 1 (by omega))
  have HG1 := hd (hg 1 (by omega))
  obtain ⟨A1, c1', hl1, hq11, hq21, -⟩ := hl 1 (by omega)
  obtain ⟨B1, d1', hg1, -⟩ := hg 1 (by omega)
  have hn1 := hn 1 (by omega)
  have hb1 := (V 1 (by omega)).most
  have hgl1 : (gs 1).length ≤ 100000 := Nat.le_trans (chkSpans_ok (gs 1) (V 1 (by omega)).spans).1 (by omega)
  unfold maxLen at hq21
  have ix1 := fun w => idx3r nm st lv gv 1 (by omega) w
  unfold rec3 at ix1
  have HL2 := hd (hl 2 (by omega))
  have HG2 := hd (hg 2 (by omega))
  obtain ⟨A2, c2', hl2, hq12, hq22, -⟩ := hl 2 (by omega)
  obtain ⟨B2, d2', hg2, -⟩ := hg 2 (by omega)
  have hn2 := hn 2 (by omega)
  have hb2 := (V 2 (by omega)).most
  have hgl2 : (gs 2).length ≤ 100000 := Nat.le_trans (chkSpans_ok (gs 2) (V 2 (by omega)).spans).1 (by omega)
  unfold maxLen at hq22
  have ix2 := fun w => idx3r nm st lv gv 2 (by omega) w
  unfold rec3 at ix2
  rw [hl0] at HL0
  rw [hg0] at HG0
  rw [hl1] at HL1
  rw [hg1] at HG1
  rw [hl2] at HL2
  rw [hg2] at HG2
  unfold rec3
  rw [hl0, hl1, hl2, hg0, hg1, hg2] at ix0
  have jx0 : ∀ w : World, (Instr.index 64 (.agg #[.string (nm 0), .int .i64 (st 0), .slice A0 (bs 0).length c0', .slice B0 (gs 0).length d0', .string (nm 1), .int .i64 (st 1), .slice A1 (bs 1).length c1', .slice B1 (gs 1).length d1', .string (nm 2), .int .i64 (st 2), .slice A2 (bs 2).length c2', .slice B2 (gs 2).length d2']) (.int .i64 0)).run Tryz.prog w = .ok (.agg #[.string (nm 0), .int .i64 (st 0), .slice A0 (bs 0).length c0', .slice B0 (gs 0).length d0']) w := ix0
  clear ix0
  rw [hl0, hl1, hl2, hg0, hg1, hg2] at ix1
  have jx1 : ∀ w : World, (Instr.index 64 (.agg #[.string (nm 0), .int .i64 (st 0), .slice A0 (bs 0).length c0', .slice B0 (gs 0).length d0', .string (nm 1), .int .i64 (st 1), .slice A1 (bs 1).length c1', .slice B1 (gs 1).length d1', .string (nm 2), .int .i64 (st 2), .slice A2 (bs 2).length c2', .slice B2 (gs 2).length d2']) (.int .i64 1)).run Tryz.prog w = .ok (.agg #[.string (nm 1), .int .i64 (st 1), .slice A1 (bs 1).length c1', .slice B1 (gs 1).length d1']) w := ix1
  clear ix1
  rw [hl0, hl1, hl2, hg0, hg1, hg2] at ix2
  have jx2 : ∀ w : World, (Instr.index 64 (.agg #[.string (nm 0), .int .i64 (st 0), .slice A0 (bs 0).length c0', .slice B0 (gs 0).length d0', .string (nm 1), .int .i64 (st 1), .slice A1 (bs 1).length c1', .slice B1 (gs 1).length d1', .string (nm 2), .int .i64 (st 2), .slice A2 (bs 2).length c2', .slice B2 (gs 2).length d2']) (.int .i64 2)).run Tryz.prog w = .ok (.agg #[.string (nm 2), .int .i64 (st 2), .slice A2 (bs 2).length c2', .slice B2 (gs 2).length d2']) w := ix2
  clear ix2
  rw [hl0, hl1, hl2, hg0, hg1, hg2]
  subst hn0
  have hle1 : (bs 1).length ≤ (bs 0).length := by omega
  have hle2 : (bs 2).length ≤ (bs 0).length := by omega
  clear hn1 hn2
  clear hl hg V hn hl0 hl1 hl2 hg0 hg1 hg2
  refine callsIn_of_wp_marks Tryz.func62 rfl trivial ?_ rfl
  simp only [Tryz.ntmps62, List.size_toArray, List.length_cons, List.length_nil, Nat.reduceAdd, Nat.reduceSub, Array.replicate_succ, Array.replicate_zero, List.push_toArray, List.append_toArray, List.nil_append, List.cons_append]
  have HBY := hd (show i0.bytes * (bs 0).length ≤ 281474976710656 by rw [hz2]; omega)
  have HMX := hd (show (bs 0).length ≤ maxLen by unfold maxLen; omega)
  gi_wp2_with (gi_at_make; refine wpListIn_make_full _ rfl (.tmp 11) (.tmp 11) 124 rfl w.heap.size 129 i0 (.agg #[.float .f32 0, .float .f32 0, .float .f32 0, .bool false, .bool false, .bool false]) 6 Tryz.underlying124 hi hz0 hz1 .i64 .i64 ((bs 0).length : Int) ((bs 0).length : Int) (bs 0).length rfl rfl rfl rfl HBY.out HMX.out (by simp) ?_; intro w5 hown5 hgrow5; have hra5 := (hgrow5.block w.heap.size (by simp) (by simp)).trans (blk_new w #[.string (nm 0), .int .i64 (st 0), .slice A0 (bs 0).length c0', .slice B0 (gs 0).length d0', .string (nm 1), .int .i64 (st 1), .slice A1 (bs 1).length c1', .slice B1 (gs 1).length d1', .string (nm 2), .int .i64 (st 2), .slice A2 (bs 2).length c2', .slice B2 (gs 2).length d2'] 64); have y0 := fun o => cell_alloc_old (o := o) (blk_cell hra5 0 |>.trans (show _ = some _ from rfl)); have y1 := fun o => cell_alloc_old (o := o) (blk_cell hra5 1 |>.trans (show _ = some _ from rfl)); have y2 := fun o => cell_alloc_old (o := o) (blk_cell hra5 2 |>.trans (show _ = some _ from rfl)); have y3 := fun o => cell_alloc_old (o := o) (blk_cell hra5 3 |>.trans (show _ = some _ from rfl)); have y4 := fun o => cell_alloc_old (o := o) (blk_cell hra5 4 |>.trans (show _ = some _ from rfl)); have y5 := fun o => cell_alloc_old (o := o) (blk_cell hra5 5 |>.trans (show _ = some _ from rfl)); have y6 := fun o => cell_alloc_old (o := o) (blk_cell hra5 6 |>.trans (show _ = some _ from rfl)); have y7 := fun o => cell_alloc_old (o := o) (blk_cell hra5 7 |>.trans (show _ = some _ from rfl)); have y8 := fun o => cell_alloc_old (o := o) (blk_cell hra5 8 |>.trans (show _ = some _ from rfl)); have y9 := fun o => cell_alloc_old (o := o) (blk_cell hra5 9 |>.trans (show _ = some _ from rfl)); have y10 := fun o => cell_alloc_old (o := o) (blk_cell hra5 10 |>.trans (show _ = some _ from rfl)); have y11 := fun o => cell_alloc_old (o := o) (blk_cell hra5 11 |>.trans (show _ = some _ from rfl)); have HO5 := hd (And.intro hown5 hgrow5); clear hown5 hgrow5 hra5)
  obtain ⟨hown5, hgrow5⟩ := HO5.out
  obtain ⟨X, hX⟩ : ∃ X, X = w.heap.size + 1 := ⟨_, rfl⟩
  obtain ⟨OB, hOB⟩ : ∃ OB, OB = w5.heap.size := ⟨_, rfl⟩
  obtain ⟨W0, hW0⟩ : ∃ W0, W0 = w5.alloc (.cells #[.slice (some ⟨w.heap.size + 1, 0, none⟩) (bs 0).length (bs 0).length] 124) := ⟨_, rfl⟩
  have hXl : X < OB := by have := (hown5.lt _ rfl).2; rw [hX, hOB]; simpa using this
  have hs0 : W0.heap.size = OB + 1 := by rw [hW0, hOB]; simp
  have hB0 : Below w.heap.size w W0 := by
    rw [hW0]
    have h1 := ((Below.refl w.heap.size w).alloc (Nat.le_refl _) (Obj.cells #[.string (nm 0), .int .i64 (st 0), .slice A0 (bs 0).length c0', .slice B0 (gs 0).length d0', .string (nm 1), .int .i64 (st 1), .slice A1 (bs 1).length c1', .slice B1 (gs 1).length d1', .string (nm 2), .int .i64 (st 2), .slice A2 (bs 2).length c2', .slice B2 (gs 2).length d2'] 64)).grown hgrow5 (by simp) (fun _ h => by cases h)
    exact h1.alloc h1.size _
  have hBO : Boxed W0 OB 124 (.slice (some ⟨X, 0, none⟩) (bs 0).length (bs 0).length) := by rw [hW0, hOB, hX]; exact Boxed.new w5 _ _
  have hrow0 : W0.ownsRow w.heap.size 129 6 (.slice (some ⟨X, 0, none⟩) (bs 0).length (bs 0).length) (bs 0).length (cellsB (bs 0).length (balF bs gs 0)) := by
    have e := madeBal (bs 0).length bs gs
    rw [hW0, hX, ← e]; simpa using hown5.alloc _
  have HI0 := hd (show Boxed W0 OB 124 (.slice (some ⟨X, 0, none⟩) (bs 0).length (bs 0).length) ∧ W0.ownsRow w.heap.size 129 6 (.slice (some ⟨X, 0, none⟩) (bs 0).length (bs 0).length) (bs 0).length (cellsB (bs 0).length (balF bs gs 0)) ∧ Below w.heap.size w W0 ∧ Kd [] W0 from ⟨hBO, hrow0, hB0, fun _ h => by cases h⟩)
  have hX1 : w.heap.size ≤ X := by omega
  rw [← hW0, ← hX]
  clear hs0
  have hOBw : w5.heap.size = OB := hOB.symm
  rw [hOBw]
  clear hown5 hgrow5 HO5 hBO hrow0 hB0 hW0 y0 y1 y2 y3 y4 y5 y6 y7 y8 y9 y10 y11 hOB hOBw HBY HMX
  clear hX
  refine wpIn_loop_rounds 4 ?_
  rw [roundsIn_succ]
  have hws0 := HI0.out.2.2.1.size
  have hOBs0 := HI0.out.1.lt
  gi_wp2_with (gi_at_call 53; refine (callsIn_wide.2 (recorded_any _ _ _ _ _)).mono ?_; rintro e w' ⟨rfl, rfl⟩)
  obtain ⟨GB0, hGB0⟩ : ∃ G, G = W0.heap.size := ⟨_, rfl⟩
  obtain ⟨V0, hV0⟩ : ∃ V, V = ((W0.alloc (.cells #[.int .i64 0] 3)).alloc (.cells #[.string (nm 0), .int .i64 (st 0), .slice A0 (bs 0).length c0', .slice B0 (gs 0).length d0'] 35)).alloc (.cells #[.string (nm 0), .int .i64 (st 0), .slice A0 (bs 0).length c0', .slice B0 (gs 0).length d0'] 35) := ⟨_, rfl⟩
  have hvs0 : V0.heap.size = GB0 + 3 := by rw [hV0, hGB0]; simp
  have hWV0 : Below W0.heap.size W0 V0 := by rw [hV0]; exact (((Below.refl _ W0).alloc (Nat.le_refl _) _).alloc (by simp) _).alloc (by simp; omega) _
  have hgb0 : Boxed V0 GB0 3 (.int .i64 0) := by rw [hV0, hGB0]; exact ((Boxed.new W0 _ _).alloc _).alloc _
  have hrc0 : V0.heap[GB0 + 2]? = some (.cells #[.string (nm 0), .int .i64 (st 0), .slice A0 (bs 0).length c0', .slice B0 (gs 0).length d0'] 35 (0, 0)) := by
    have h1 := blk_new ((W0.alloc (.cells #[.int .i64 0] 3)).alloc (.cells #[.string (nm 0), .int .i64 (st 0), .slice A0 (bs 0).length c0', .slice B0 (gs 0).length d0'] 35)) #[.string (nm 0), .int .i64 (st 0), .slice A0 (bs 0).length c0', .slice B0 (gs 0).length d0'] 35
    simp only [World.size_alloc] at h1
    rw [hV0, hGB0]; exact h1
  have HV0 := hd (show Boxed V0 OB 124 (.slice (some ⟨X, 0, none⟩) (bs 0).length (bs 0).length) ∧ V0.ownsRow w.heap.size 129 6 (.slice (some ⟨X, 0, none⟩) (bs 0).length (bs 0).length) (bs 0).length (cellsB (bs 0).length (balF bs gs 0)) ∧ Below w.heap.size w V0 ∧ Kd [] V0 from
    ⟨(hWV0.block _ hOBs0).trans HI0.out.1, own_bel HI0.out.2.1 hWV0, HI0.out.2.2.1.trans (hWV0.mono hws0), HI0.out.2.2.2.below hWV0⟩)
  have hOG0 : OB < GB0 := by omega
  have hDs0 := hd (show ∀ D, D ∈ ([] : List Nat) → D < V0.heap.size from fun D hD => blk_lt (HV0.out.2.2.2 D hD))
  rw [← hV0, ← hGB0]
  clear hV0 hWV0 hGB0
  refine wpIn_rangeFunc_ownG (α := LvM (bs 0).length) rfl (by omega) (gf := 83) (lb := #[.pointer (some ⟨GB0 + 1 + 1, 0, none⟩)]) rfl trivial (enters_of Tryz.func83 (by kernel_rfl) rfl)
    (rec_stops (fun x : LvM (bs 0).length => x.1) (fLvM (bs 0)) 4 (by omega) (GB0 + 1 + 1) w.heap.size X (nm 0) (st 0) _ _ (bs 0) (gs 0) (by omega) hgl0 (asc_of (gs 0) (HV.out 0 (by omega)).spans) (fLvM_at (bs 0) (HV.out 0 (by omega)).lev) V0 (by omega) (by omega) (by omega) hrc0 (HL0.out.below HV0.out.2.2.1 (Nat.le_refl _)) (HG0.out.below HV0.out.2.2.1 (Nat.le_refl _)))
    KpR.trans (KpR.putObj (by omega)) (Below.refl _ _) (fun _ => rfl)
    (fun pre W => (((∃ v, Boxed W OB 124 v ∧ W.ownsRow w.heap.size 129 6 v (bs 0).length (cellsB (bs 0).length (updA (balF bs gs 0) 0 pre)) ∧ v = .slice (some ⟨X, 0, none⟩) (bs 0).length (bs 0).length) ∧ Boxed W GB0 3 (.int .i64 0)) ∧ Kd [] W) ∧ Below w.heap.size w W)
    (fun _ _ _ => False)
    (OwnFrom.and (OwnFrom.and (OwnFrom.and (Own.from (holdsRow_own w.heap.size OB 124 129 6 (fun _ => (bs 0).length) (fun pre => cellsB (bs 0).length (updA (balF bs gs 0) 0 pre)) (fun _ v => v = .slice (some ⟨X, 0, none⟩) (bs 0).length (bs 0).length)) _) (Own.from (boxed_own _ _ (fun _ => .int .i64 0)) _)) (ownFrom_kd hDs0.out)) (ownFrom_below (Nat.le_refl _) (by omega)))
    (fun _ _ _ _ _ hs _ _ => hs)
    ⟨⟨⟨⟨_, HV0.out.1, HV0.out.2.1, rfl⟩, hgb0⟩, HV0.out.2.2.2⟩, HV0.out.2.2.1⟩
    (fun x => { tmps := #[.agg #[.string (nm 0), .int .i64 (st 0), .slice A0 (bs 0).length c0', .slice B0 (gs 0).length d0', .string (nm 1), .int .i64 (st 1), .slice A1 (bs 1).length c1', .slice B1 (gs 1).length d1', .string (nm 2), .int .i64 (st 2), .slice A2 (bs 2).length c2', .slice B2 (gs 2).length d2'], .pointer (some ⟨w.heap.size, 0, none⟩), .slice none 0 0, .pointer (some ⟨OB, 0, none⟩), .pointer (some ⟨GB0, 0, none⟩), .pointer (some ⟨GB0 + 1, 0, none⟩), .int .i64 (x.1.1 : Int), .float .f32 x.1.2, .pointer (some ⟨w.heap.size, 0, none⟩), .pointer (some ⟨w.heap.size, 2, none⟩), .slice A0 (bs 0).length c0', .int .i64 ((bs 0).length : Int), .slice (some ⟨X, 0, none⟩) (bs 0).length (bs 0).length, .agg #[.string (nm 0), .int .i64 (st 0), .slice A0 (bs 0).length c0', .slice B0 (gs 0).length d0', .string (nm 1), .int .i64 (st 1), .slice A1 (bs 1).length c1', .slice B1 (gs 1).length d1', .string (nm 2), .int .i64 (st 2), .slice A2 (bs 2).length c2', .slice B2 (gs 2).length d2'], .int .i64 0, .bool true, .int .i64 0, .agg #[.string (nm 0), .int .i64 (st 0), .slice A0 (bs 0).length c0', .slice B0 (gs 0).length d0'], .agg #[.string (nm 0), .int .i64 (st 0), .slice A0 (bs 0).length c0', .slice B0 (gs 0).length d0'], .func (.func 83) #[] #[.pointer (some ⟨GB0 + 1 + 1, 0, none⟩)], .int .i64 (x.1.1 : Int), .float .f32 x.1.2, undef, undef, undef, undef, undef, undef, undef, undef, undef, undef, undef, undef, undef, undef, undef], defers := [] }) ?assign0 ?body0 ?done0 ?stop0
  case assign0 =>
    intro l x W K hK
    gi_wp2
    exact hK
  case body0 =>
    rintro l pre ⟨⟨i, b⟩, hi2⟩ W ⟨⟨⟨⟨v, hv, hrow, rfl⟩, hgb⟩, hkd⟩, hB⟩ hlt
    have hi3 : i < (bs 0).length := by have := hi2.1; simp only at this; omega
    have HU := hd (updA_snoc (balF bs gs 0) 0 pre ⟨(i, b), hi2⟩)
    have hc := hv.cell
    have hgc := hgb.cell
    have x0 := hrow.cellAt (i * 6 + 0) (by omega)
    have x1 := hrow.cellAt (i * 6 + 3 + 0) (by omega)
    rw [show i * 6 + 3 + 0 = i * 6 + (0 + 3) by omega, cellsB_at _ _ hi3 (by omega)] at x1
    rw [cellsB_at _ _ hi3 (by omega)] at x0
    have f0 := hrow.frozenAt (i * 6 + 0)
    have f1 := hrow.frozenAt (i * 6 + 3 + 0)
    have hli : (i : Int) < ((bs 0).length : Int) := by omega
    have HH := hd (And.intro hv (And.intro hrow (And.intro hgb (And.intro hkd hB))))
    clear hv hrow hgb hkd hB
    gi_wp2_with fail
    refine wpIn_region_S_round (F := Fence.wide) (S := fun x => x.cell? ⟨OB, 0, none⟩ = some (.slice (some ⟨X, 0, none⟩) (bs 0).length (bs 0).length) ∧ x.cell? ⟨GB0, 0, none⟩ = some (.int .i64 0)) rfl (by kernel_rfl) (by kernel_rfl) ?_
    obtain ⟨Wd, hWd⟩ : ∃ Wd : World, Wd = { W with drawn := W.drawn + 1 } := ⟨_, rfl⟩
    have hS0 : Wd.cell? ⟨OB, 0, none⟩ = some (.slice (some ⟨X, 0, none⟩) (bs 0).length (bs 0).length) ∧ Wd.cell? ⟨GB0, 0, none⟩ = some (.int .i64 0) := by rw [hWd]; exact ⟨hc, hgc⟩
    rw [← hWd]
    simp only [List.size_toArray, List.length_cons, List.length_nil]
    refine anyS_take (i := 0) (v := .slice (some ⟨X, 0, none⟩) (bs 0).length (bs 0).length) rfl rfl (by kernel_rfl) (by kernel_rfl) (by kernel_rfl) (fun c a w h => by cases h.1) ⟨rfl, fun x hx => ⟨rfl, ?_⟩⟩ hS0 ?_
    · simp [execOp, go_sem, hx.1]
    refine anyS_take (i := 1) (v := .int .i64 (i : Int)) rfl rfl (by kernel_rfl) (by kernel_rfl) (by kernel_rfl) (fun c a w h => by cases h.1) ⟨rfl, fun x hx => ⟨rfl, ?_⟩⟩ hS0 ?_
    · simp [execOp, go_sem]
    refine anyS_take (i := 2) (v := .int .i64 0) rfl rfl (by kernel_rfl) (by kernel_rfl) (by kernel_rfl) (fun c a w h => by cases h.1) ⟨rfl, fun x hx => ⟨rfl, ?_⟩⟩ hS0 ?_
    · simp [execOp, go_sem, hx.2]
    refine anyS_take (i := 3) (v := .slice (some ⟨X, 0, none⟩) (bs 0).length (bs 0).length) rfl rfl (by kernel_rfl) (by kernel_rfl) (by kernel_rfl) (fun c a w h => by cases h.1) ⟨rfl, fun x hx => ⟨rfl, ?_⟩⟩ hS0 ?_
    · simp [execOp, go_sem, hx.1]
    refine anyS_take (i := 4) (v := .int .i64 (i : Int)) rfl rfl (by kernel_rfl) (by kernel_rfl) (by kernel_rfl) (fun c a w h => by cases h.1) ⟨rfl, fun x hx => ⟨rfl, ?_⟩⟩ hS0 ?_
    · simp [execOp, go_sem]
    refine anyS_take (i := 5) (v := .int .i64 0) rfl rfl (by kernel_rfl) (by kernel_rfl) (by kernel_rfl) (fun c a w h => by cases h.1) ⟨rfl, fun x hx => ⟨rfl, ?_⟩⟩ hS0 ?_
    · simp [execOp, go_sem, hx.2]
    refine anyS_take (i := 6) (v := .float .f32 b) rfl rfl (by kernel_rfl) (by kernel_rfl) (by kernel_rfl) (fun c a w h => by cases h.1) ⟨rfl, fun x hx => ⟨rfl, ?_⟩⟩ hS0 ?_
    · simp [execOp, go_sem]
    refine anyS_take (i := 7) (v := .pointer (some ⟨X, i * 6, none⟩)) rfl rfl (by kernel_rfl) (by kernel_rfl) (by kernel_rfl) (fun c a w h => by cases h.1) ⟨rfl, fun x hx => ⟨rfl, ?_⟩⟩ hS0 ?_
    · simp [execOp, go_sem, hli]
    refine anyS_take (i := 8) (v := .pointer (some ⟨X, i * 6, none⟩)) rfl rfl (by kernel_rfl) (by kernel_rfl) (by kernel_rfl) (fun c a w h => by cases h.1) ⟨rfl, fun x hx => ⟨rfl, ?_⟩⟩ hS0 ?_
    · simp [execOp, go_sem]
    refine anyS_take (i := 9) (v := .pointer (some ⟨X, i * 6, none⟩)) rfl rfl (by kernel_rfl) (by kernel_rfl) (by kernel_rfl) (fun c a w h => by cases h.1) ⟨rfl, fun x hx => ⟨rfl, ?_⟩⟩ hS0 ?_
    · simp [execOp, go_sem]
    refine anyS_take (i := 11) (v := .pointer (some ⟨X, i * 6, none⟩)) rfl rfl (by kernel_rfl) (by kernel_rfl) (by kernel_rfl) (fun c a w h => by cases h.1) ⟨rfl, fun x hx => ⟨rfl, ?_⟩⟩ hS0 ?_
    · simp [execOp, go_sem, hli]
    refine anyS_take (i := 12) (v := .pointer (some ⟨X, i * 6 + 3, none⟩)) rfl rfl (by kernel_rfl) (by kernel_rfl) (by kernel_rfl) (fun c a w h => by cases h.1) ⟨rfl, fun x hx => ⟨rfl, ?_⟩⟩ hS0 ?_
    · simp [execOp, go_sem]
    have hxw : Wd.cell? ⟨X, i * 6, none⟩ = some (cellF (updA (balF bs gs 0) 0 pre) i 0) := by rw [hWd]; exact x0
    have hfw : Wd.frozen? ⟨X, i * 6, none⟩ = false := by rw [hWd]; exact f0
    obtain ⟨We, hWe⟩ : ∃ We : World, We = Wd.setCell ⟨X, i * 6, none⟩ (.float .f32 b) := ⟨_, rfl⟩
    have hS1 : We.cell? ⟨OB, 0, none⟩ = some (.slice (some ⟨X, 0, none⟩) (bs 0).length (bs 0).length) ∧ We.cell? ⟨GB0, 0, none⟩ = some (.int .i64 0) := by
      rw [hWe]
      exact ⟨(World.cell?_setCell_other Wd ⟨X, i * 6, none⟩ ⟨OB, 0, none⟩ _ (by first | (simp; done) | (simp; omega))).trans hS0.1, (World.cell?_setCell_other Wd ⟨X, i * 6, none⟩ ⟨GB0, 0, none⟩ _ (by first | (simp; done) | (simp; omega))).trans hS0.2⟩
    have hxe : We.cell? ⟨X, i * 6 + 3, none⟩ = some (cellF (updA (balF bs gs 0) 0 pre) i (0 + 3)) := by
      rw [hWe]
      exact (World.cell?_setCell_other Wd ⟨X, i * 6, none⟩ ⟨X, i * 6 + 3, none⟩ _ (by simp)).trans (by rw [hWd]; exact x1)
    have hfe : We.frozen? ⟨X, i * 6 + 3, none⟩ = false := by rw [hWe, hWd]; simpa using f1
    refine anyS_one (i := 10) (w' := We) rfl rfl (by kernel_rfl) rfl rfl ?_ hS1 ?_
    · rw [hWe]; simp [execOp, go_sem, hxw, hfw]
    refine anyS_take (i := 13) (v := .pointer (some ⟨X, i * 6 + 3, none⟩)) rfl rfl (by kernel_rfl) (by kernel_rfl) (by kernel_rfl) (fun c a w h => by cases h.1) ⟨rfl, fun x hx => ⟨rfl, ?_⟩⟩ hS1 ?_
    · simp [execOp, go_sem]
    obtain ⟨Wf, hWf⟩ : ∃ Wf : World, Wf = We.setCell ⟨X, i * 6 + 3, none⟩ (.bool true) := ⟨_, rfl⟩
    have hS2 : Wf.cell? ⟨OB, 0, none⟩ = some (.slice (some ⟨X, 0, none⟩) (bs 0).length (bs 0).length) ∧ Wf.cell? ⟨GB0, 0, none⟩ = some (.int .i64 0) := by
      rw [hWf]
      exact ⟨(World.cell?_setCell_other We ⟨X, i * 6 + 3, none⟩ ⟨OB, 0, none⟩ _ (by first | (simp; done) | (simp; omega))).trans hS1.1, (World.cell?_setCell_other We ⟨X, i * 6 + 3, none⟩ ⟨GB0, 0, none⟩ _ (by first | (simp; done) | (simp; omega))).trans hS1.2⟩
    refine anyS_one (i := 14) (w' := Wf) rfl rfl (by kernel_rfl) rfl rfl ?_ hS2 ?_
    · rw [hWf]; simp [execOp, go_sem, hxe, hfe]
    refine ⟨by kernel_rfl, rfl, ?_⟩
    obtain ⟨hv, hrow, hgb, hkd, hB⟩ := HH.out
    have hXX : w.heap.size ≤ X := hX1
    have hws := hB.size
    have e1 : Below w.heap.size w Wf := by rw [hWf, hWe, hWd]; exact ((hB.drew).setCell (p := ⟨X, i * 6, none⟩) hXX _).setCell (p := ⟨X, i * 6 + 3, none⟩) hXX _
    have e2 : KeepsFrom V0.heap.size W Wf := by rw [hWf, hWe, hWd]; exact ((KeepsOthers.drew W).from _).trans (((KeepsOthers.setCell _ _ _).from _).trans ((KeepsOthers.setCell _ _ _).from _))
    have e3 : KpR w.heap.size X W Wf := by
      rw [hWf, hWe, hWd]
      exact (kp_below hws ((Below.refl _ W).drew)).trans ((KpR.grown (gb_set ({ W with drawn := W.drawn + 1 } : World) X (i * 6) _) hws (fun k hk => by cases hk; exact ⟨hXX, .inl rfl⟩)).trans (KpR.grown (gb_set _ X (i * 6 + 3) _) (by simpa using hws) (fun k hk => by cases hk; exact ⟨hXX, .inl rfl⟩)))
    have e4 : Wf.ownsRow w.heap.size 129 6 (.slice (some ⟨X, 0, none⟩) (bs 0).length (bs 0).length) (bs 0).length (cellsB (bs 0).length (updA (balF bs gs 0) 0 (pre ++ [⟨(i, b), hi2⟩]))) := by
      rw [HU.out, ← cellsB_upd _ _ b hi3 (by omega), hWf, hWe, hWd]
      exact ((own_drew hrow).stored (i * 6) (.float .f32 b)).1.stored (i * 6 + 3) (.bool true) |>.1
    have e5 : Boxed Wf OB 124 (.slice (some ⟨X, 0, none⟩) (bs 0).length (bs 0).length) := by rw [hWf, hWe, hWd]; exact (Boxed.kept (W := { W with drawn := W.drawn + 1 }) hv (gb_set _ X (i * 6) _) (by first | (simp; done) | (simp; omega))).kept (gb_set _ X (i * 6 + 3) _) (by first | (simp; done) | (simp; omega))
    have e6 : Boxed Wf GB0 3 (.int .i64 0) := by rw [hWf, hWe, hWd]; exact (Boxed.kept (W := { W with drawn := W.drawn + 1 }) hgb (gb_set _ X (i * 6) _) (by first | (simp; done) | (simp; omega))).kept (gb_set _ X (i * 6 + 3) _) (by first | (simp; done) | (simp; omega))
    obtain ⟨cs, hXc⟩ := own_blk hrow
    have e7 : Kd [] Wf := by
      rw [hWf, hWe, hWd]
      exact Kd.set (Kd.set (W := { W with drawn := W.drawn + 1 }) hkd hXc) (blk_set (w := { W with drawn := W.drawn + 1 }) hXc _ _)
    exact ⟨e2, e3, ⟨⟨⟨_, e5, e4, rfl⟩, e6⟩, e7⟩, e1⟩
  case stop0 =>
    rintro D c pre W _ _ h _
    exact h.elim
  case done0 =>
    rintro D0 ys W1 hD0 rfl ⟨⟨⟨⟨v, hv, hrow, rfl⟩, hgb⟩, hkd⟩, hB⟩ hK
    have HI1 := hd (show Boxed W1 OB 124 (.slice (some ⟨X, 0, none⟩) (bs 0).length (bs 0).length) ∧ W1.ownsRow w.heap.size 129 6 (.slice (some ⟨X, 0, none⟩) (bs 0).length (bs 0).length) (bs 0).length (cellsB (bs 0).length (balF bs gs 1)) ∧ Below w.heap.size w W1 ∧ Kd [D0] W1 from
      ⟨hv, hrow, hB, fun D h => by rcases List.mem_cons.1 h with rfl | h; exact hK; exact hkd D h⟩)
    have hws1' : V0.heap.size ≤ W1.heap.size := by have := blk_lt hK; omega
    clear hv hrow hB hK hgb hkd hgb0 hrc0 HV0 HI0
    gi_wp2
    rw [roundsIn_succ]
    have hws1 := HI1.out.2.2.1.size
    have hOBs1 := HI1.out.1.lt
    gi_wp2_with (gi_at_call 53; refine (callsIn_wide.2 (recorded_any _ _ _ _ _)).mono ?_; rintro e w' ⟨rfl, rfl⟩)
    obtain ⟨GB1, hGB1⟩ : ∃ G, G = W1.heap.size := ⟨_, rfl⟩
    obtain ⟨V1, hV1⟩ : ∃ V, V = ((W1.alloc (.cells #[.int .i64 1] 3)).alloc (.cells #[.string (nm 1), .int .i64 (st 1), .slice A1 (bs 1).length c1', .slice B1 (gs 1).length d1'] 35)).alloc (.cells #[.string (nm 1), .int .i64 (st 1), .slice A1 (bs 1).length c1', .slice B1 (gs 1).length d1'] 35) := ⟨_, rfl⟩
    have hvs1 : V1.heap.size = GB1 + 3 := by rw [hV1, hGB1]; simp
    have hWV1 : Below W1.heap.size W1 V1 := by rw [hV1]; exact (((Below.refl _ W1).alloc (Nat.le_refl _) _).alloc (by simp) _).alloc (by simp; omega) _
    have hgb1 : Boxed V1 GB1 3 (.int .i64 1) := by rw [hV1, hGB1]; exact ((Boxed.new W1 _ _).alloc _).alloc _
    have hrc1 : V1.heap[GB1 + 2]? = some (.cells #[.string (nm 1), .int .i64 (st 1), .slice A1 (bs 1).length c1', .slice B1 (gs 1).length d1'] 35 (0, 0)) := by
      have h1 := blk_new ((W1.alloc (.cells #[.int .i64 1] 3)).alloc (.cells #[.string (nm 1), .int .i64 (st 1), .slice A1 (bs 1).length c1', .slice B1 (gs 1).length d1'] 35)) #[.string (nm 1), .int .i64 (st 1), .slice A1 (bs 1).length c1', .slice B1 (gs 1).length d1'] 35
      simp only [World.size_alloc] at h1
      rw [hV1, hGB1]; exact h1
    have HV1 := hd (show Boxed V1 OB 124 (.slice (some ⟨X, 0, none⟩) (bs 0).length (bs 0).length) ∧ V1.ownsRow w.heap.size 129 6 (.slice (some ⟨X, 0, none⟩) (bs 0).length (bs 0).length) (bs 0).length (cellsB (bs 0).length (balF bs gs 1)) ∧ Below w.heap.size w V1 ∧ Kd [D0] V1 from
      ⟨(hWV1.block _ hOBs1).trans HI1.out.1, own_bel HI1.out.2.1 hWV1, HI1.out.2.2.1.trans (hWV1.mono hws1), HI1.out.2.2.2.below hWV1⟩)
    have hOG1 : OB < GB1 := by omega
    have hDs1 := hd (show ∀ D, D ∈ ([D0] : List Nat) → D < V1.heap.size from fun D hD => blk_lt (HV1.out.2.2.2 D hD))
    rw [← hV1, ← hGB1]
    clear hV1 hWV1 hGB1
    refine wpIn_rangeFunc_ownG (α := LvM (bs 1).length) rfl (by omega) (gf := 83) (lb := #[.pointer (some ⟨GB1 + 1 + 1, 0, none⟩)]) rfl trivial (enters_of Tryz.func83 (by kernel_rfl) rfl)
      (rec_stops (fun x : LvM (bs 1).length => x.1) (fLvM (bs 1)) 4 (by omega) (GB1 + 1 + 1) w.heap.size X (nm 1) (st 1) _ _ (bs 1) (gs 1) (by omega) hgl1 (asc_of (gs 1) (HV.out 1 (by omega)).spans) (fLvM_at (bs 1) (HV.out 1 (by omega)).lev) V1 (by omega) (by omega) (by omega) hrc1 (HL1.out.below HV1.out.2.2.1 (Nat.le_refl _)) (HG1.out.below HV1.out.2.2.1 (Nat.le_refl _)))
      KpR.trans (KpR.putObj (by omega)) (Below.refl _ _) (fun _ => rfl)
      (fun pre W => (((∃ v, Boxed W OB 124 v ∧ W.ownsRow w.heap.size 129 6 v (bs 0).length (cellsB (bs 0).length (updA (balF bs gs 1) 1 pre)) ∧ v = .slice (some ⟨X, 0, none⟩) (bs 0).length (bs 0).length) ∧ Boxed W GB1 3 (.int .i64 1)) ∧ Kd [D0] W) ∧ Below w.heap.size w W)
      (fun _ _ _ => False)
      (OwnFrom.and (OwnFrom.and (OwnFrom.and (Own.from (holdsRow_own w.heap.size OB 124 129 6 (fun _ => (bs 0).length) (fun pre => cellsB (bs 0).length (updA (balF bs gs 1) 1 pre)) (fun _ v => v = .slice (some ⟨X, 0, none⟩) (bs 0).length (bs 0).length)) _) (Own.from (boxed_own _ _ (fun _ => .int .i64 1)) _)) (ownFrom_kd hDs1.out)) (ownFrom_below (Nat.le_refl _) (by omega)))
      (fun _ _ _ _ _ hs _ _ => hs)
      ⟨⟨⟨⟨_, HV1.out.1, HV1.out.2.1, rfl⟩, hgb1⟩, HV1.out.2.2.2⟩, HV1.out.2.2.1⟩
      (fun x => { tmps := #[.agg #[.string (nm 0), .int .i64 (st 0), .slice A0 (bs 0).length c0', .slice B0 (gs 0).length d0', .string (nm 1), .int .i64 (st 1), .slice A1 (bs 1).length c1', .slice B1 (gs 1).length d1', .string (nm 2), .int .i64 (st 2), .slice A2 (bs 2).length c2', .slice B2 (gs 2).length d2'], .pointer (some ⟨w.heap.size, 0, none⟩), .slice none 0 0, .pointer (some ⟨OB, 0, none⟩), .pointer (some ⟨GB1, 0, none⟩), .pointer (some ⟨GB1 + 1, 0, none⟩), .int .i64 (x.1.1 : Int), .float .f32 x.1.2, .pointer (some ⟨w.heap.size, 0, none⟩), .pointer (some ⟨w.heap.size, 2, none⟩), .slice A0 (bs 0).length c0', .int .i64 ((bs 0).length : Int), .slice (some ⟨X, 0, none⟩) (bs 0).length (bs 0).length, .agg #[.string (nm 0), .int .i64 (st 0), .slice A0 (bs 0).length c0', .slice B0 (gs 0).length d0', .string (nm 1), .int .i64 (st 1), .slice A1 (bs 1).length c1', .slice B1 (gs 1).length d1', .string (nm 2), .int .i64 (st 2), .slice A2 (bs 2).length c2', .slice B2 (gs 2).length d2'], .int .i64 1, .bool true, .int .i64 1, .agg #[.string (nm 1), .int .i64 (st 1), .slice A1 (bs 1).length c1', .slice B1 (gs 1).length d1'], .agg #[.string (nm 1), .int .i64 (st 1), .slice A1 (bs 1).length c1', .slice B1 (gs 1).length d1'], .func (.func 83) #[] #[.pointer (some ⟨GB1 + 1 + 1, 0, none⟩)], .int .i64 (x.1.1 : Int), .float .f32 x.1.2, undef, undef, undef, undef, undef, undef, undef, undef, undef, undef, undef, undef, undef, .int .i64 1, undef], defers := [] }) ?assign1 ?body1 ?done1 ?stop1
    case assign1 =>
      intro l x W K hK
      gi_wp2
      exact hK
    case body1 =>
      rintro l pre ⟨⟨i, b⟩, hi2⟩ W ⟨⟨⟨⟨v, hv, hrow, rfl⟩, hgb⟩, hkd⟩, hB⟩ hlt
      have hi3 : i < (bs 0).length := by have := hi2.1; simp only at this; omega
      have HU := hd (updA_snoc (balF bs gs 1) 1 pre ⟨(i, b), hi2⟩)
      have hc := hv.cell
      have hgc := hgb.cell
      have x0 := hrow.cellAt (i * 6 + 1) (by omega)
      have x1 := hrow.cellAt (i * 6 + 3 + 1) (by omega)
      rw [show i * 6 + 3 + 1 = i * 6 + (1 + 3) by omega, cellsB_at _ _ hi3 (by omega)] at x1
      rw [cellsB_at _ _ hi3 (by omega)] at x0
      have f0 := hrow.frozenAt (i * 6 + 1)
      have f1 := hrow.frozenAt (i * 6 + 3 + 1)
      have hli : (i : Int) < ((bs 0).length : Int) := by omega
      have HH := hd (And.intro hv (And.intro hrow (And.intro hgb (And.intro hkd hB))))
      clear hv hrow hgb hkd hB
      gi_wp2_with fail
      refine wpIn_region_S_round (F := Fence.wide) (S := fun x => x.cell? ⟨OB, 0, none⟩ = some (.slice (some ⟨X, 0, none⟩) (bs 0).length (bs 0).length) ∧ x.cell? ⟨GB1, 0, none⟩ = some (.int .i64 1)) rfl (by kernel_rfl) (by kernel_rfl) ?_
      obtain ⟨Wd, hWd⟩ : ∃ Wd : World, Wd = { W with drawn := W.drawn + 1 } := ⟨_, rfl⟩
      have hS0 : Wd.cell? ⟨OB, 0, none⟩ = some (.slice (some ⟨X, 0, none⟩) (bs 0).length (bs 0).length) ∧ Wd.cell? ⟨GB1, 0, none⟩ = some (.int .i64 1) := by rw [hWd]; exact ⟨hc, hgc⟩
      rw [← hWd]
      simp only [List.size_toArray, List.length_cons, List.length_nil]
      refine anyS_take (i := 0) (v := .slice (some ⟨X, 0, none⟩) (bs 0).length (bs 0).length) rfl rfl (by kernel_rfl) (by kernel_rfl) (by kernel_rfl) (fun c a w h => by cases h.1) ⟨rfl, fun x hx => ⟨rfl, ?_⟩⟩ hS0 ?_
      · simp [execOp, go_sem, hx.1]
      refine anyS_take (i := 1) (v := .int .i64 (i : Int)) rfl rfl (by kernel_rfl) (by kernel_rfl) (by kernel_rfl) (fun c a w h => by cases h.1) ⟨rfl, fun x hx => ⟨rfl, ?_⟩⟩ hS0 ?_
      · simp [execOp, go_sem]
      refine anyS_take (i := 2) (v := .int .i64 1) rfl rfl (by kernel_rfl) (by kernel_rfl) (by kernel_rfl) (fun c a w h => by cases h.1) ⟨rfl, fun x hx => ⟨rfl, ?_⟩⟩ hS0 ?_
      · simp [execOp, go_sem, hx.2]
      refine anyS_take (i := 3) (v := .slice (some ⟨X, 0, none⟩) (bs 0).length (bs 0).length) rfl rfl (by kernel_rfl) (by kernel_rfl) (by kernel_rfl) (fun c a w h => by cases h.1) ⟨rfl, fun x hx => ⟨rfl, ?_⟩⟩ hS0 ?_
      · simp [execOp, go_sem, hx.1]
      refine anyS_take (i := 4) (v := .int .i64 (i : Int)) rfl rfl (by kernel_rfl) (by kernel_rfl) (by kernel_rfl) (fun c a w h => by cases h.1) ⟨rfl, fun x hx => ⟨rfl, ?_⟩⟩ hS0 ?_
      · simp [execOp, go_sem]
      refine anyS_take (i := 5) (v := .int .i64 1) rfl rfl (by kernel_rfl) (by kernel_rfl) (by kernel_rfl) (fun c a w h => by cases h.1) ⟨rfl, fun x hx => ⟨rfl, ?_⟩⟩ hS0 ?_
      · simp [execOp, go_sem, hx.2]
      refine anyS_take (i := 6) (v := .float .f32 b) rfl rfl (by kernel_rfl) (by kernel_rfl) (by kernel_rfl) (fun c a w h => by cases h.1) ⟨rfl, fun x hx => ⟨rfl, ?_⟩⟩ hS0 ?_
      · simp [execOp, go_sem]
      refine anyS_take (i := 7) (v := .pointer (some ⟨X, i * 6, none⟩)) rfl rfl (by kernel_rfl) (by kernel_rfl) (by kernel_rfl) (fun c a w h => by cases h.1) ⟨rfl, fun x hx => ⟨rfl, ?_⟩⟩ hS0 ?_
      · simp [execOp, go_sem, hli]
      refine anyS_take (i := 8) (v := .pointer (some ⟨X, i * 6, none⟩)) rfl rfl (by kernel_rfl) (by kernel_rfl) (by kernel_rfl) (fun c a w h => by cases h.1) ⟨rfl, fun x hx => ⟨rfl, ?_⟩⟩ hS0 ?_
      · simp [execOp, go_sem]
      refine anyS_take (i := 9) (v := .pointer (some ⟨X, i * 6 + 1, none⟩)) rfl rfl (by kernel_rfl) (by kernel_rfl) (by kernel_rfl) (fun c a w h => by cases h.1) ⟨rfl, fun x hx => ⟨rfl, ?_⟩⟩ hS0 ?_
      · simp [execOp, go_sem]
      refine anyS_take (i := 11) (v := .pointer (some ⟨X, i * 6, none⟩)) rfl rfl (by kernel_rfl) (by kernel_rfl) (by kernel_rfl) (fun c a w h => by cases h.1) ⟨rfl, fun x hx => ⟨rfl, ?_⟩⟩ hS0 ?_
      · simp [execOp, go_sem, hli]
      refine anyS_take (i := 12) (v := .pointer (some ⟨X, i * 6 + 3, none⟩)) rfl rfl (by kernel_rfl) (by kernel_rfl) (by kernel_rfl) (fun c a w h => by cases h.1) ⟨rfl, fun x hx => ⟨rfl, ?_⟩⟩ hS0 ?_
      · simp [execOp, go_sem]
      have hxw : Wd.cell? ⟨X, i * 6 + 1, none⟩ = some (cellF (updA (balF bs gs 1) 1 pre) i 1) := by rw [hWd]; exact x0
      have hfw : Wd.frozen? ⟨X, i * 6 + 1, none⟩ = false := by rw [hWd]; exact f0
      obtain ⟨We, hWe⟩ : ∃ We : World, We = Wd.setCell ⟨X, i * 6 + 1, none⟩ (.float .f32 b) := ⟨_, rfl⟩
      have hS1 : We.cell? ⟨OB, 0, none⟩ = some (.slice (some ⟨X, 0, none⟩) (bs 0).length (bs 0).length) ∧ We.cell? ⟨GB1, 0, none⟩ = some (.int .i64 1) := by
        rw [hWe]
        exact ⟨(World.cell?_setCell_other Wd ⟨X, i * 6 + 1, none⟩ ⟨OB, 0, none⟩ _ (by first | (simp; done) | (simp; omega))).trans hS0.1, (World.cell?_setCell_other Wd ⟨X, i * 6 + 1, none⟩ ⟨GB1, 0, none⟩ _ (by first | (simp; done) | (simp; omega))).trans hS0.2⟩
      have hxe : We.cell? ⟨X, i * 6 + 4, none⟩ = some (cellF (updA (balF bs gs 1) 1 pre) i (1 + 3)) := by
        rw [hWe]
        exact (World.cell?_setCell_other Wd ⟨X, i * 6 + 1, none⟩ ⟨X, i * 6 + 4, none⟩ _ (by simp)).trans (by rw [hWd]; exact x1)
      have hfe : We.frozen? ⟨X, i * 6 + 4, none⟩ = false := by rw [hWe, hWd]; simpa using f1
      refine anyS_one (i := 10) (w' := We) rfl rfl (by kernel_rfl) rfl rfl ?_ hS1 ?_
      · rw [hWe]; simp [execOp, go_sem, hxw, hfw]
      refine anyS_take (i := 13) (v := .pointer (some ⟨X, i * 6 + 4, none⟩)) rfl rfl (by kernel_rfl) (by kernel_rfl) (by kernel_rfl) (fun c a w h => by cases h.1) ⟨rfl, fun x hx => ⟨rfl, ?_⟩⟩ hS1 ?_
      · simp [execOp, go_sem]
      obtain ⟨Wf, hWf⟩ : ∃ Wf : World, Wf = We.setCell ⟨X, i * 6 + 4, none⟩ (.bool true) := ⟨_, rfl⟩
      have hS2 : Wf.cell? ⟨OB, 0, none⟩ = some (.slice (some ⟨X, 0, none⟩) (bs 0).length (bs 0).length) ∧ Wf.cell? ⟨GB1, 0, none⟩ = some (.int .i64 1) := by
        rw [hWf]
        exact ⟨(World.cell?_setCell_other We ⟨X, i * 6 + 4, none⟩ ⟨OB, 0, none⟩ _ (by first | (simp; done) | (simp; omega))).trans hS1.1, (World.cell?_setCell_other We ⟨X, i * 6 + 4, none⟩ ⟨GB1, 0, none⟩ _ (by first | (simp; done) | (simp; omega))).trans hS1.2⟩
      refine anyS_one (i := 14) (w' := Wf) rfl rfl (by kernel_rfl) rfl rfl ?_ hS2 ?_
      · rw [hWf]; simp [execOp, go_sem, hxe, hfe]
      refine ⟨by kernel_rfl, rfl, ?_⟩
      obtain ⟨hv, hrow, hgb, hkd, hB⟩ := HH.out
      have hXX : w.heap.size ≤ X := hX1
      have hws := hB.size
      have e1 : Below w.heap.size w Wf := by rw [hWf, hWe, hWd]; exact ((hB.drew).setCell (p := ⟨X, i * 6 + 1, none⟩) hXX _).setCell (p := ⟨X, i * 6 + 4, none⟩) hXX _
      have e2 : KeepsFrom V1.heap.size W Wf := by rw [hWf, hWe, hWd]; exact ((KeepsOthers.drew W).from _).trans (((KeepsOthers.setCell _ _ _).from _).trans ((KeepsOthers.setCell _ _ _).from _))
      have e3 : KpR w.heap.size X W Wf := by
        rw [hWf, hWe, hWd]
        exact (kp_below hws ((Below.refl _ W).drew)).trans ((KpR.grown (gb_set ({ W with drawn := W.drawn + 1 } : World) X (i * 6 + 1) _) hws (fun k hk => by cases hk; exact ⟨hXX, .inl rfl⟩)).trans (KpR.grown (gb_set _ X (i * 6 + 4) _) (by simpa using hws) (fun k hk => by cases hk; exact ⟨hXX, .inl rfl⟩)))
      have e4 : Wf.ownsRow w.heap.size 129 6 (.slice (some ⟨X, 0, none⟩) (bs 0).length (bs 0).length) (bs 0).length (cellsB (bs 0).length (updA (balF bs gs 1) 1 (pre ++ [⟨(i, b), hi2⟩]))) := by
        rw [HU.out, ← cellsB_upd _ _ b hi3 (by omega), hWf, hWe, hWd]
        exact ((own_drew hrow).stored (i * 6 + 1) (.float .f32 b)).1.stored (i * 6 + 4) (.bool true) |>.1
      have e5 : Boxed Wf OB 124 (.slice (some ⟨X, 0, none⟩) (bs 0).length (bs 0).length) := by rw [hWf, hWe, hWd]; exact (Boxed.kept (W := { W with drawn := W.drawn + 1 }) hv (gb_set _ X (i * 6 + 1) _) (by first | (simp; done) | (simp; omega))).kept (gb_set _ X (i * 6 + 4) _) (by first | (simp; done) | (simp; omega))
      have e6 : Boxed Wf GB1 3 (.int .i64 1) := by rw [hWf, hWe, hWd]; exact (Boxed.kept (W := { W with drawn := W.drawn + 1 }) hgb (gb_set _ X (i * 6 + 1) _) (by first | (simp; done) | (simp; omega))).kept (gb_set _ X (i * 6 + 4) _) (by first | (simp; done) | (simp; omega))
      obtain ⟨cs, hXc⟩ := own_blk hrow
      have e7 : Kd [D0] Wf := by
        rw [hWf, hWe, hWd]
        exact Kd.set (Kd.set (W := { W with drawn := W.drawn + 1 }) hkd hXc) (blk_set (w := { W with drawn := W.drawn + 1 }) hXc _ _)
      exact ⟨e2, e3, ⟨⟨⟨_, e5, e4, rfl⟩, e6⟩, e7⟩, e1⟩
    case stop1 =>
      rintro D c pre W _ _ h _
      exact h.elim
    case done1 =>
      rintro D1 ys W2 hD1 rfl ⟨⟨⟨⟨v, hv, hrow, rfl⟩, hgb⟩, hkd⟩, hB⟩ hK
      have HI2 := hd (show Boxed W2 OB 124 (.slice (some ⟨X, 0, none⟩) (bs 0).length (bs 0).length) ∧ W2.ownsRow w.heap.size 129 6 (.slice (some ⟨X, 0, none⟩) (bs 0).length (bs 0).length) (bs 0).length (cellsB (bs 0).length (balF bs gs 2)) ∧ Below w.heap.size w W2 ∧ Kd [D1, D0] W2 from
        ⟨hv, hrow, hB, fun D h => by rcases List.mem_cons.1 h with rfl | h; exact hK; exact hkd D h⟩)
      have hws2' : V1.heap.size ≤ W2.heap.size := by have := blk_lt hK; omega
      clear hv hrow hB hK hgb hkd hgb1 hrc1 HV1 HI1
      gi_wp2
      rw [roundsIn_succ]
      have hws2 := HI2.out.2.2.1.size
      have hOBs2 := HI2.out.1.lt
      gi_wp2_with (gi_at_call 53; refine (callsIn_wide.2 (recorded_any _ _ _ _ _)).mono ?_; rintro e w' ⟨rfl, rfl⟩)
      obtain ⟨GB2, hGB2⟩ : ∃ G, G = W2.heap.size := ⟨_, rfl⟩
      obtain ⟨V2, hV2⟩ : ∃ V, V = ((W2.alloc (.cells #[.int .i64 2] 3)).alloc (.cells #[.string (nm 2), .int .i64 (st 2), .slice A2 (bs 2).length c2', .slice B2 (gs 2).length d2'] 35)).alloc (.cells #[.string (nm 2), .int .i64 (st 2), .slice A2 (bs 2).length c2', .slice B2 (gs 2).length d2'] 35) := ⟨_, rfl⟩
      have hvs2 : V2.heap.size = GB2 + 3 := by rw [hV2, hGB2]; simp
      have hWV2 : Below W2.heap.size W2 V2 := by rw [hV2]; exact (((Below.refl _ W2).alloc (Nat.le_refl _) _).alloc (by simp) _).alloc (by simp; omega) _
      have hgb2 : Boxed V2 GB2 3 (.int .i64 2) := by rw [hV2, hGB2]; exact ((Boxed.new W2 _ _).alloc _).alloc _
      have hrc2 : V2.heap[GB2 + 2]? = some (.cells #[.string (nm 2), .int .i64 (st 2), .slice A2 (bs 2).length c2', .slice B2 (gs 2).length d2'] 35 (0, 0)) := by
        have h1 := blk_new ((W2.alloc (.cells #[.int .i64 2] 3)).alloc (.cells #[.string (nm 2), .int .i64 (st 2), .slice A2 (bs 2).length c2', .slice B2 (gs 2).length d2'] 35)) #[.string (nm 2), .int .i64 (st 2), .slice A2 (bs 2).length c2', .slice B2 (gs 2).length d2'] 35
        simp only [World.size_alloc] at h1
        rw [hV2, hGB2]; exact h1
      have HV2 := hd (show Boxed V2 OB 124 (.slice (some ⟨X, 0, none⟩) (bs 0).length (bs 0).length) ∧ V2.ownsRow w.heap.size 129 6 (.slice (some ⟨X, 0, none⟩) (bs 0).length (bs 0).length) (bs 0).length (cellsB (bs 0).length (balF bs gs 2)) ∧ Below w.heap.size w V2 ∧ Kd [D1, D0] V2 from
        ⟨(hWV2.block _ hOBs2).trans HI2.out.1, own_bel HI2.out.2.1 hWV2, HI2.out.2.2.1.trans (hWV2.mono hws2), HI2.out.2.2.2.below hWV2⟩)
      have hOG2 : OB < GB2 := by omega
      have hDs2 := hd (show ∀ D, D ∈ ([D1, D0] : List Nat) → D < V2.heap.size from fun D hD => blk_lt (HV2.out.2.2.2 D hD))
      rw [← hV2, ← hGB2]
      clear hV2 hWV2 hGB2
      refine wpIn_rangeFunc_ownG (α := LvM (bs 2).length) rfl (by omega) (gf := 83) (lb := #[.pointer (some ⟨GB2 + 1 + 1, 0, none⟩)]) rfl trivial (enters_of Tryz.func83 (by kernel_rfl) rfl)
        (rec_stops (fun x : LvM (bs 2).length => x.1) (fLvM (bs 2)) 4 (by omega) (GB2 + 1 + 1) w.heap.size X (nm 2) (st 2) _ _ (bs 2) (gs 2) (by omega) hgl2 (asc_of (gs 2) (HV.out 2 (by omega)).spans) (fLvM_at (bs 2) (HV.out 2 (by omega)).lev) V2 (by omega) (by omega) (by omega) hrc2 (HL2.out.below HV2.out.2.2.1 (Nat.le_refl _)) (HG2.out.below HV2.out.2.2.1 (Nat.le_refl _)))
        KpR.trans (KpR.putObj (by omega)) (Below.refl _ _) (fun _ => rfl)
        (fun pre W => (((∃ v, Boxed W OB 124 v ∧ W.ownsRow w.heap.size 129 6 v (bs 0).length (cellsB (bs 0).length (updA (balF bs gs 2) 2 pre)) ∧ v = .slice (some ⟨X, 0, none⟩) (bs 0).length (bs 0).length) ∧ Boxed W GB2 3 (.int .i64 2)) ∧ Kd [D1, D0] W) ∧ Below w.heap.size w W)
        (fun _ _ _ => False)
        (OwnFrom.and (OwnFrom.and (OwnFrom.and (Own.from (holdsRow_own w.heap.size OB 124 129 6 (fun _ => (bs 0).length) (fun pre => cellsB (bs 0).length (updA (balF bs gs 2) 2 pre)) (fun _ v => v = .slice (some ⟨X, 0, none⟩) (bs 0).length (bs 0).length)) _) (Own.from (boxed_own _ _ (fun _ => .int .i64 2)) _)) (ownFrom_kd hDs2.out)) (ownFrom_below (Nat.le_refl _) (by omega)))
        (fun _ _ _ _ _ hs _ _ => hs)
        ⟨⟨⟨⟨_, HV2.out.1, HV2.out.2.1, rfl⟩, hgb2⟩, HV2.out.2.2.2⟩, HV2.out.2.2.1⟩
        (fun x => { tmps := #[.agg #[.string (nm 0), .int .i64 (st 0), .slice A0 (bs 0).length c0', .slice B0 (gs 0).length d0', .string (nm 1), .int .i64 (st 1), .slice A1 (bs 1).length c1', .slice B1 (gs 1).length d1', .string (nm 2), .int .i64 (st 2), .slice A2 (bs 2).length c2', .slice B2 (gs 2).length d2'], .pointer (some ⟨w.heap.size, 0, none⟩), .slice none 0 0, .pointer (some ⟨OB, 0, none⟩), .pointer (some ⟨GB2, 0, none⟩), .pointer (some ⟨GB2 + 1, 0, none⟩), .int .i64 (x.1.1 : Int), .float .f32 x.1.2, .pointer (some ⟨w.heap.size, 0, none⟩), .pointer (some ⟨w.heap.size, 2, none⟩), .slice A0 (bs 0).length c0', .int .i64 ((bs 0).length : Int), .slice (some ⟨X, 0, none⟩) (bs 0).length (bs 0).length, .agg #[.string (nm 0), .int .i64 (st 0), .slice A0 (bs 0).length c0', .slice B0 (gs 0).length d0', .string (nm 1), .int .i64 (st 1), .slice A1 (bs 1).length c1', .slice B1 (gs 1).length d1', .string (nm 2), .int .i64 (st 2), .slice A2 (bs 2).length c2', .slice B2 (gs 2).length d2'], .int .i64 2, .bool true, .int .i64 2, .agg #[.string (nm 2), .int .i64 (st 2), .slice A2 (bs 2).length c2', .slice B2 (gs 2).length d2'], .agg #[.string (nm 2), .int .i64 (st 2), .slice A2 (bs 2).length c2', .slice B2 (gs 2).length d2'], .func (.func 83) #[] #[.pointer (some ⟨GB2 + 1 + 1, 0, none⟩)], .int .i64 (x.1.1 : Int), .float .f32 x.1.2, undef, undef, undef, undef, undef, undef, undef, undef, undef, undef, undef, undef, undef, .int .i64 2, undef], defers := [] }) ?assign2 ?body2 ?done2 ?stop2
      case assign2 =>
        intro l x W K hK
        gi_wp2
        exact hK
      case body2 =>
        rintro l pre ⟨⟨i, b⟩, hi2⟩ W ⟨⟨⟨⟨v, hv, hrow, rfl⟩, hgb⟩, hkd⟩, hB⟩ hlt
        have hi3 : i < (bs 0).length := by have := hi2.1; simp only at this; omega
        have HU := hd (updA_snoc (balF bs gs 2) 2 pre ⟨(i, b), hi2⟩)
        have hc := hv.cell
        have hgc := hgb.cell
        have x0 := hrow.cellAt (i * 6 + 2) (by omega)
        have x1 := hrow.cellAt (i * 6 + 3 + 2) (by omega)
        rw [show i * 6 + 3 + 2 = i * 6 + (2 + 3) by omega, cellsB_at _ _ hi3 (by omega)] at x1
        rw [cellsB_at _ _ hi3 (by omega)] at x0
        have f0 := hrow.frozenAt (i * 6 + 2)
        have f1 := hrow.frozenAt (i * 6 + 3 + 2)
        have hli : (i : Int) < ((bs 0).length : Int) := by omega
        have HH := hd (And.intro hv (And.intro hrow (And.intro hgb (And.intro hkd hB))))
        clear hv hrow hgb hkd hB
        gi_wp2_with fail
        refine wpIn_region_S_round (F := Fence.wide) (S := fun x => x.cell? ⟨OB, 0, none⟩ = some (.slice (some ⟨X, 0, none⟩) (bs 0).length (bs 0).length) ∧ x.cell? ⟨GB2, 0, none⟩ = some (.int .i64 2)) rfl (by kernel_rfl) (by kernel_rfl) ?_
        obtain ⟨Wd, hWd⟩ : ∃ Wd : World, Wd = { W with drawn := W.drawn + 1 } := ⟨_, rfl⟩
        have hS0 : Wd.cell? ⟨OB, 0, none⟩ = some (.slice (some ⟨X, 0, none⟩) (bs 0).length (bs 0).length) ∧ Wd.cell? ⟨GB2, 0, none⟩ = some (.int .i64 2) := by rw [hWd]; exact ⟨hc, hgc⟩
        rw [← hWd]
        simp only [List.size_toArray, List.length_cons, List.length_nil]
        refine anyS_take (i := 0) (v := .slice (some ⟨X, 0, none⟩) (bs 0).length (bs 0).length) rfl rfl (by kernel_rfl) (by kernel_rfl) (by kernel_rfl) (fun c a w h => by cases h.1) ⟨rfl, fun x hx => ⟨rfl, ?_⟩⟩ hS0 ?_
        · simp [execOp, go_sem, hx.1]
        refine anyS_take (i := 1) (v := .int .i64 (i : Int)) rfl rfl (by kernel_rfl) (by kernel_rfl) (by kernel_rfl) (fun c a w h => by cases h.1) ⟨rfl, fun x hx => ⟨rfl, ?_⟩⟩ hS0 ?_
        · simp [execOp, go_sem]
        refine anyS_take (i := 2) (v := .int .i64 2) rfl rfl (by kernel_rfl) (by kernel_rfl) (by kernel_rfl) (fun c a w h => by cases h.1) ⟨rfl, fun x hx => ⟨rfl, ?_⟩⟩ hS0 ?_
        · simp [execOp, go_sem, hx.2]
        refine anyS_take (i := 3) (v := .slice (some ⟨X, 0, none⟩) (bs 0).length (bs 0).length) rfl rfl (by kernel_rfl) (by kernel_rfl) (by kernel_rfl) (fun c a w h => by cases h.1) ⟨rfl, fun x hx => ⟨rfl, ?_⟩⟩ hS0 ?_
        · simp [execOp, go_sem, hx.1]
        refine anyS_take (i := 4) (v := .int .i64 (i : Int)) rfl rfl (by kernel_rfl) (by kernel_rfl) (by kernel_rfl) (fun c a w h => by cases h.1) ⟨rfl, fun x hx => ⟨rfl, ?_⟩⟩ hS0 ?_
        · simp [execOp, go_sem]
        refine anyS_take (i := 5) (v := .int .i64 2) rfl rfl (by kernel_rfl) (by kernel_rfl) (by kernel_rfl) (fun c a w h => by cases h.1) ⟨rfl, fun x hx => ⟨rfl, ?_⟩⟩ hS0 ?_
        · simp [execOp, go_sem, hx.2]
        refine anyS_take (i := 6) (v := .float .f32 b) rfl rfl (by kernel_rfl) (by kernel_rfl) (by kernel_rfl) (fun c a w h => by cases h.1) ⟨rfl, fun x hx => ⟨rfl, ?_⟩⟩ hS0 ?_
        · simp [execOp, go_sem]
        refine anyS_take (i := 7) (v := .pointer (some ⟨X, i * 6, none⟩)) rfl rfl (by kernel_rfl) (by kernel_rfl) (by kernel_rfl) (fun c a w h => by cases h.1) ⟨rfl, fun x hx => ⟨rfl, ?_⟩⟩ hS0 ?_
        · simp [execOp, go_sem, hli]
        refine anyS_take (i := 8) (v := .pointer (some ⟨X, i * 6, none⟩)) rfl rfl (by kernel_rfl) (by kernel_rfl) (by kernel_rfl) (fun c a w h => by cases h.1) ⟨rfl, fun x hx => ⟨rfl, ?_⟩⟩ hS0 ?_
        · simp [execOp, go_sem]
        refine anyS_take (i := 9) (v := .pointer (some ⟨X, i * 6 + 2, none⟩)) rfl rfl (by kernel_rfl) (by kernel_rfl) (by kernel_rfl) (fun c a w h => by cases h.1) ⟨rfl, fun x hx => ⟨rfl, ?_⟩⟩ hS0 ?_
        · simp [execOp, go_sem]
        refine anyS_take (i := 11) (v := .pointer (some ⟨X, i * 6, none⟩)) rfl rfl (by kernel_rfl) (by kernel_rfl) (by kernel_rfl) (fun c a w h => by cases h.1) ⟨rfl, fun x hx => ⟨rfl, ?_⟩⟩ hS0 ?_
        · simp [execOp, go_sem, hli]
        refine anyS_take (i := 12) (v := .pointer (some ⟨X, i * 6 + 3, none⟩)) rfl rfl (by kernel_rfl) (by kernel_rfl) (by kernel_rfl) (fun c a w h => by cases h.1) ⟨rfl, fun x hx => ⟨rfl, ?_⟩⟩ hS0 ?_
        · simp [execOp, go_sem]
        have hxw : Wd.cell? ⟨X, i * 6 + 2, none⟩ = some (cellF (updA (balF bs gs 2) 2 pre) i 2) := by rw [hWd]; exact x0
        have hfw : Wd.frozen? ⟨X, i * 6 + 2, none⟩ = false := by rw [hWd]; exact f0
        obtain ⟨We, hWe⟩ : ∃ We : World, We = Wd.setCell ⟨X, i * 6 + 2, none⟩ (.float .f32 b) := ⟨_, rfl⟩
        have hS1 : We.cell? ⟨OB, 0, none⟩ = some (.slice (some ⟨X, 0, none⟩) (bs 0).length (bs 0).length) ∧ We.cell? ⟨GB2, 0, none⟩ = some (.int .i64 2) := by
          rw [hWe]
          exact ⟨(World.cell?_setCell_other Wd ⟨X, i * 6 + 2, none⟩ ⟨OB, 0, none⟩ _ (by first | (simp; done) | (simp; omega))).trans hS0.1, (World.cell?_setCell_other Wd ⟨X, i * 6 + 2, none⟩ ⟨GB2, 0, none⟩ _ (by first | (simp; done) | (simp; omega))).trans hS0.2⟩
        have hxe : We.cell? ⟨X, i * 6 + 5, none⟩ = some (cellF (updA (balF bs gs 2) 2 pre) i (2 + 3)) := by
          rw [hWe]
          exact (World.cell?_setCell_other Wd ⟨X, i * 6 + 2, none⟩ ⟨X, i * 6 + 5, none⟩ _ (by simp)).trans (by rw [hWd]; exact x1)
        have hfe : We.frozen? ⟨X, i * 6 + 5, none⟩ = false := by rw [hWe, hWd]; simpa using f1
        refine anyS_one (i := 10) (w' := We) rfl rfl (by kernel_rfl) rfl rfl ?_ hS1 ?_
        · rw [hWe]; simp [execOp, go_sem, hxw, hfw]
        refine anyS_take (i := 13) (v := .pointer (some ⟨X, i * 6 + 5, none⟩)) rfl rfl (by kernel_rfl) (by kernel_rfl) (by kernel_rfl) (fun c a w h => by cases h.1) ⟨rfl, fun x hx => ⟨rfl, ?_⟩⟩ hS1 ?_
        · simp [execOp, go_sem]
        obtain ⟨Wf, hWf⟩ : ∃ Wf : World, Wf = We.setCell ⟨X, i * 6 + 5, none⟩ (.bool true) := ⟨_, rfl⟩
        have hS2 : Wf.cell? ⟨OB, 0, none⟩ = some (.slice (some ⟨X, 0, none⟩) (bs 0).length (bs 0).length) ∧ Wf.cell? ⟨GB2, 0, none⟩ = some (.int .i64 2) := by
          rw [hWf]
          exact ⟨(World.cell?_setCell_other We ⟨X, i * 6 + 5, none⟩ ⟨OB, 0, none⟩ _ (by first | (simp; done) | (simp; omega))).trans hS1.1, (World.cell?_setCell_other We ⟨X, i * 6 + 5, none⟩ ⟨GB2, 0, none⟩ _ (by first | (simp; done) | (simp; omega))).trans hS1.2⟩
        refine anyS_one (i := 14) (w' := Wf) rfl rfl (by kernel_rfl) rfl rfl ?_ hS2 ?_
        · rw [hWf]; simp [execOp, go_sem, hxe, hfe]
        refine ⟨by kernel_rfl, rfl, ?_⟩
        obtain ⟨hv, hrow, hgb, hkd, hB⟩ := HH.out
        have hXX : w.heap.size ≤ X := hX1
        have hws := hB.size
        have e1 : Below w.heap.size w Wf := by rw [hWf, hWe, hWd]; exact ((hB.drew).setCell (p := ⟨X, i * 6 + 2, none⟩) hXX _).setCell (p := ⟨X, i * 6 + 5, none⟩) hXX _
        have e2 : KeepsFrom V2.heap.size W Wf := by rw [hWf, hWe, hWd]; exact ((KeepsOthers.drew W).from _).trans (((KeepsOthers.setCell _ _ _).from _).trans ((KeepsOthers.setCell _ _ _).from _))
        have e3 : KpR w.heap.size X W Wf := by
          rw [hWf, hWe, hWd]
          exact (kp_below hws ((Below.refl _ W).drew)).trans ((KpR.grown (gb_set ({ W with drawn := W.drawn + 1 } : World) X (i * 6 + 2) _) hws (fun k hk => by cases hk; exact ⟨hXX, .inl rfl⟩)).trans (KpR.grown (gb_set _ X (i * 6 + 5) _) (by simpa using hws) (fun k hk => by cases hk; exact ⟨hXX, .inl rfl⟩)))
        have e4 : Wf.ownsRow w.heap.size 129 6 (.slice (some ⟨X, 0, none⟩) (bs 0).length (bs 0).length) (bs 0).length (cellsB (bs 0).length (updA (balF bs gs 2) 2 (pre ++ [⟨(i, b), hi2⟩]))) := by
          rw [HU.out, ← cellsB_upd _ _ b hi3 (by omega), hWf, hWe, hWd]
          exact ((own_drew hrow).stored (i * 6 + 2) (.float .f32 b)).1.stored (i * 6 + 5) (.bool true) |>.1
        have e5 : Boxed Wf OB 124 (.slice (some ⟨X, 0, none⟩) (bs 0).length (bs 0).length) := by rw [hWf, hWe, hWd]; exact (Boxed.kept (W := { W with drawn := W.drawn + 1 }) hv (gb_set _ X (i * 6 + 2) _) (by first | (simp; done) | (simp; omega))).kept (gb_set _ X (i * 6 + 5) _) (by first | (simp; done) | (simp; omega))
        have e6 : Boxed Wf GB2 3 (.int .i64 2) := by rw [hWf, hWe, hWd]; exact (Boxed.kept (W := { W with drawn := W.drawn + 1 }) hgb (gb_set _ X (i * 6 + 2) _) (by first | (simp; done) | (simp; omega))).kept (gb_set _ X (i * 6 + 5) _) (by first | (simp; done) | (simp; omega))
        obtain ⟨cs, hXc⟩ := own_blk hrow
        have e7 : Kd [D1, D0] Wf := by
          rw [hWf, hWe, hWd]
          exact Kd.set (Kd.set (W := { W with drawn := W.drawn + 1 }) hkd hXc) (blk_set (w := { W with drawn := W.drawn + 1 }) hXc _ _)
        exact ⟨e2, e3, ⟨⟨⟨_, e5, e4, rfl⟩, e6⟩, e7⟩, e1⟩
      case stop2 =>
        rintro D c pre W _ _ h _
        exact h.elim
      case done2 =>
        rintro D2 ys W3 hD2 rfl ⟨⟨⟨⟨v, hv, hrow, rfl⟩, hgb⟩, hkd⟩, hB⟩ hK
        have HI3 := hd (show Boxed W3 OB 124 (.slice (some ⟨X, 0, none⟩) (bs 0).length (bs 0).length) ∧ W3.ownsRow w.heap.size 129 6 (.slice (some ⟨X, 0, none⟩) (bs 0).length (bs 0).length) (bs 0).length (cellsB (bs 0).length (balF bs gs 3)) ∧ Below w.heap.size w W3 ∧ Kd [D2, D1, D0] W3 from
          ⟨hv, hrow, hB, fun D h => by rcases List.mem_cons.1 h with rfl | h; exact hK; exact hkd D h⟩)
        have hws3' : V2.heap.size ≤ W3.heap.size := by have := blk_lt hK; omega
        clear hv hrow hB hK hgb hkd hgb2 hrc2 HV2 HI2
        gi_wp2
        rw [roundsIn_succ]
        have hc3 := HI3.out.1.cell
        gi_wp2_with fail
        obtain ⟨hv, hrow, hB, hkd⟩ := HI3.out
        have k2 := hkd D2 (by simp)
        have n1 : D1 ≠ D2 := by have := hDs2.out D1 (by simp); omega
        have n0 : D0 ≠ D2 := by have := hDs2.out D0 (by simp); omega
        have n01 : D0 ≠ D1 := by have := hDs1.out D0 (by simp); omega
        have k1 := (put_other W3 n1 (.deferred none)).trans (hkd D1 (by simp))
        have k0 := (put_other (W3.putObj D2 (.deferred none)) n01 (.deferred none)).trans ((put_other W3 n0 (.deferred none)).trans (hkd D0 (by simp)))
        refine ⟨by simp, .inl ⟨_, _, rfl, run_takeDeferred k2, ?_⟩⟩
        refine ⟨by simp, .inl ⟨_, _, rfl, run_takeDeferred k1, ?_⟩⟩
        refine ⟨by simp, .inl ⟨_, _, rfl, run_takeDeferred k0, ?_⟩⟩
        exact ⟨_, results_tmp rfl _ _ _, _, rfl, ownsRow_putObj (ownsRow_putObj (ownsRow_putObj hrow _ k2 rfl) _ k1 rfl) _ k0 rfl, ((hB.trans (belowK_b (w := w) (Nat.le_refl _) W3 D2 _ _ (by omega) k2 rfl rfl)).trans (belowK_b (w := w) (Nat.le_refl _) _ D1 _ _ (by omega) k1 rfl rfl)).trans (belowK_b (w := w) (Nat.le_refl _) _ D0 _ _ (by omega) k0 rfl rfl)⟩
/-- The same outside the fence. -/
theorem ballots_any (nm : Nat → ByteArray) (st : Nat → Int) (lv gv : Nat → Value) (bs : Nat → List Nat) (gs : Nat → List (Int × Int)) (n : Nat) (w : World) (hl : ∀ g, g < 3 → Rd w w.heap.size (lv g) (bs g).length (flc (bs g))) (hg : ∀ g, g < 3 → Rd w w.heap.size (gv g) (gs g).length (spc (gs g))) (V : ∀ g, g < 3 → Valid (nm g) (st g) (bs g) (gs g)) (hn : ∀ g, g < 3 → (bs g).length = n) :
    Calls Tryz.prog 62 #[.agg (rec3 nm st lv gv)] w (OwnsBal w.heap.size n (balF bs gs 3) w) := callsIn_wide.1 (ballots_in nm st lv gv bs gs n w hl hg V hn)
end Go.Proofs.YtkgkpcmokmhakaaGreatDoor
