/-
  Contract of gauge.putWords. Condition: room.
  Contract of gauge.Encode at a valid record.
-/
import Derived.Test.YtbmeadlamjppgaaGreatDoorProg
import Derived.Test.YtbmeadlamjppgaaGreatDoorMP
import Derived.Test.YtbmeadlamjppgaaGreatDoorV9
import Derived.Maps.AppendAt
import Derived.Lib.SlBytesConst
import Derived.ArgAppend

namespace Go.Proofs.YtbmeadlamjppgaaGreatDoor
open Go.RowKit Go.Shelf
attribute [local go_sem] Oper.semAt_some

/-- The bytes of a word, the highest one first. -/
def four (x : Nat) : List Value := [.int .u8 ((x : Int) / 16777216 % 256), .int .u8 ((x : Int) / 65536 % 256), .int .u8 ((x : Int) / 256 % 256), .int .u8 ((x : Int) % 256)]
def fours (ws : List Nat) : List Value := (ws.map four).flatten
theorem fours_len (ws : List Nat) : (fours ws).length = 4 * ws.length := by
  induction ws with
  | nil => rfl
  | cons x l ih => simp only [fours, List.map_cons, List.flatten_cons, List.length_append, List.length_cons] at ih ⊢; rw [ih]; simp [four]; omega
theorem fours_snoc (ws : List Nat) (k : Nat) (h : k < ws.length) : fours (ws.take (k + 1)) = fours (ws.take k) ++ four (ws.getD k 0) := by
  have e : ws.getD k 0 = ws[k] := by simp [h]
  unfold fours
  rw [List.take_add_one, List.getElem?_eq_getElem h, e]
  simp only [Option.toList_some, List.map_append, List.map_cons, List.map_nil, List.flatten_append, List.flatten_cons, List.flatten_nil, List.append_nil]

theorem cell_four_new (W : World) (x y z u : Value) (t : TypeId) : ∀ j v, [x, y, z, u][j]? = some v → (W.alloc (.cells #[x, y, z, u] t)).cell? ((⟨W.heap.size, 0, none⟩ : Addr).add j) = some v := by
  intro j v hj
  match j, hj with
  | 0, hj => exact (blk_cell (blk_new W #[x, y, z, u] t) 0).trans hj
  | 1, hj => exact (blk_cell (blk_new W #[x, y, z, u] t) 1).trans hj
  | 2, hj => exact (blk_cell (blk_new W #[x, y, z, u] t) 2).trans hj
  | 3, hj => exact (blk_cell (blk_new W #[x, y, z, u] t) 3).trans hj
set_option maxRecDepth 1000000 in
set_option maxHeartbeats 4000000 in
theorem put_any (B : Nat) (v : Value) (n : Nat) (xs : List Value) (sl : Value) (ws : List Nat) (w : World) (hx : w.ownsRow B 5 1 v n xs) (hB : B ≤ w.heap.size) (hs : Rd w w.heap.size sl ws.length (ws.map (fun x : Nat => Value.int .u32 (x : Int)))) (hsb : ∀ b, sl.ownBlock = some b → v.ownBlock ≠ some b) (hn : n + 4 * ws.length ≤ 1000000) :
    Calls Tryz.prog 92 #[v, sl] w fun e w' => ∃ v', e = .returned v' ∧ w'.ownsRow B 5 1 v' (n + 4 * ws.length) (xs ++ fours ws) ∧ Below B w w' ∧ (v'.ownBlock = v.ownBlock ∨ ∀ g, v'.ownBlock = some g → w.heap.size ≤ g) ∧ w.grownBy w' v.ownBlock := by
  obtain ⟨i0, hi, hz0, hz1, hz2⟩ := info_parts byteInfo
  obtain ⟨A, c, rfl, hc1, hc2, hc⟩ := hs
  unfold maxLen at hc2
  have HC := hd hc
  have HX := hd hx
  have HSB := hd hsb
  clear hc hx hsb
  go_enter Tryz.func92, Tryz.ntmps92
  go_wp2
  go_loopw [0, 9] (fun u i wr => ∃ k : Nat, k ≤ ws.length ∧ i = .int .i64 k ∧ Hid (wr.ownsRow B 5 1 u (n + 4 * k) (xs ++ fours (ws.take k)) ∧ (u.ownBlock = v.ownBlock ∨ ∀ g, u.ownBlock = some g → w.heap.size ≤ g) ∧ w.grownBy wr v.ownBlock)) (fun _ i _ => ws.length - (intOf i).toNat)
  case atStart => exact ⟨0, Nat.zero_le _, rfl, ⟨by simpa [fours] using HX.out, .inl rfl, ⟨rfl, rfl, rfl, Nat.le_refl _, fun _ _ _ => rfl⟩⟩⟩
  case round =>
    obtain ⟨k, hk, rfl, HI⟩ := hrel
    have hws := HI.out.2.2.size
    by_cases hlt : k < ws.length
    · obtain ⟨b, off, rfl, hbb, hcell⟩ := HC.out (by omega)
      obtain ⟨x, hx⟩ : ∃ x, x = ws.getD k 0 := ⟨_, rfl⟩
      have hne : some b ≠ v.ownBlock := fun e => HSB.out b rfl e.symm
      have hcx : wr.cell? ⟨b, off + k, none⟩ = some (.int .u32 (x : Int)) := by
        have h1 := hcell k (by simpa using hlt)
        have h2 := HI.out.2.2.block b hbb hne
        rw [show wr.cell? ⟨b, off + k, none⟩ = w.cell? ⟨b, off + k, none⟩ by simp [World.cell?, h2], h1, hx]
        simp [hlt]
      have HXE := hd hx
      have H63 := hd (show n + 4 * k + 4 ≤ maxLen by unfold maxLen; omega)
      have HBY := hd (show (n + 4 * k + 4) * 1 ≤ 140737488355328 by omega)
      have HBL := hd (HI.out.2.2)
      clear hcell hne hx
      go_wp2_with (at_builtin; refine wpList_append_own_at _ rfl _ _ 88 rfl B 5 i0 (.int .u8 0) 1 1 Tryz.underlying88 hi hz0 hz1 hz2 rfl (by decide) _ _ _ rfl (HI.out.1.alloc _) ⟨wr.heap.size, 0, none⟩ 4 4 (four x) rfl rfl (cell_four_new _ _ _ _ _ _) (by simp [four, Value.oneCell']) H63.out HBY.out (by simp; omega) ?_; intro v' w1 hown' hgrow _ hat; have HN := hd (And.intro hown' (And.intro hgrow hat)); clear hown' hgrow hat)
      go_roundw
      case rel =>
        refine ⟨k + 1, by omega, by go_num, ⟨?_, ?_, ?_⟩⟩
        · rw [fours_snoc ws k hlt, ← HXE.out, ← List.append_assoc]; exact HN.out.1
        · rcases HN.out.2.2 with h | h
          · rw [h]; exact HI.out.2.1
          · refine .inr fun g hg => ?_
            rw [h] at hg
            have : (wr.alloc (Obj.cells (four x).toArray 5)).heap.size = g := Option.some.inj hg
            simp at this; omega
        · have g1 := HI.out.2.2
          have g2 := HN.out.2.1
          have g3 : wr.heap.size ≤ w1.heap.size := by have := g2.size; simp at this; omega
          refine ⟨g2.os.trans g1.os, g2.tape.trans g1.tape, g2.output.trans g1.output, Nat.le_trans g1.size g3, fun j hj hne => ?_⟩
          refine (g2.block j (by simp; omega) ?_).trans ((Below.heap_alloc wr _ j (by omega)).trans (g1.block j hj hne))
          intro e
          rcases HI.out.2.1 with h | h
          · exact hne (e.trans h)
          · have := h j e.symm; omega
      case measure => simp [intOf]; omega
    · obtain rfl : k = ws.length := by omega
      go_wp2
      go_ret
      refine ⟨_, rfl, by simpa using HI.out.1, gb_below HI.out.2.2 hB (fun j hj => (HX.out.lt j hj).1), HI.out.2.1, HI.out.2.2⟩
end Go.Proofs.YtbmeadlamjppgaaGreatDoor

namespace Go.Proofs.YtbmeadlamjppgaaGreatDoor
open Go.RowKit Go.Shelf
attribute [local go_sem] Oper.semAt_some

theorem f32bits_run (x : Nat) (w : World) : (callFunc 93 #[.float .f32 x]).run Tryz.prog w = .ok (.value (.int .u32 x)) w := by kernel_rfl
/-- What holds between the steps of Encode. -/
structure EI (n₀ B : Nat) (w1 : World) (RC : Array Value) (xs : List Value) (v : Value) (W : World) : Prop where
  own : W.ownsRow B 5 1 v xs.length xs
  rcd : W.heap[n₀]? = some (.cells RC 29 (0, 0))
  bel : Below B w1 W
theorem EI.put {n₀ B : Nat} {w1 : World} {RC : Array Value} {xs : List Value} {v : Value} {W : World} (h : EI n₀ B w1 RC xs v W) (hn : n₀ < B) (hB : B ≤ w1.heap.size) (W2 : World) (hb2 : Below W.heap.size W W2) (A : Nat) (hA : W.heap.size ≤ A) (m c : Nat) (ws : List Nat) (hr : Rd W2 W2.heap.size (.slice (some ⟨A, 0, none⟩) m c) ws.length (ws.map (fun x : Nat => Value.int .u32 (x : Int)))) (hl : xs.length + 4 * ws.length ≤ 1000000) :
    Calls Tryz.prog 92 #[v, .slice (some ⟨A, 0, none⟩) m c] W2 fun e w' => ∃ v', e = .returned v' ∧ EI n₀ B w1 RC (xs ++ fours ws) v' w' := by
  have hbw : B ≤ W2.heap.size := Nat.le_trans hB (Nat.le_trans h.bel.size hb2.size)
  refine (put_any B v xs.length xs _ ws W2 (own_bel h.own hb2) hbw hr (fun b hb e => ?_) hl).mono ?_
  · have h1 := (h.own.lt b e).2
    simp only [Value.ownBlock, Option.some.injEq] at hb
    omega
  · rintro e w' ⟨v', rfl, h1, h2, -, -⟩
    refine ⟨v', rfl, ?_, ?_, h.bel.trans ((hb2.mono (Nat.le_trans hB h.bel.size)).trans h2)⟩
    · rw [List.length_append, fours_len]; exact h1
    · exact (h2.block n₀ hn).trans ((hb2.block n₀ (blk_lt h.rcd)).trans h.rcd)
theorem own_new4 (W : World) (B : Nat) (hB : B ≤ W.heap.size) (a b c d : Value) (t : TypeId) : (W.alloc (.cells #[a, b, c, d] t)).ownsRow B t 1 (.slice (some ⟨W.heap.size, 0, none⟩) 4 4) 4 [a, b, c, d] :=
  ⟨rfl, .inr ⟨_, _, _, rfl, hB, blk_new W _ t, Nat.le_refl _, by decide, rfl, rfl⟩⟩
/-- The bytes of a stream: its head, its gaps, its levels. -/
def encH (nm : ByteArray) (st : Int) (n m : Nat) : List Value := [.int .u8 84, .int .u8 73, .int .u8 68, .int .u8 69] ++ [.int .u8 (nm.size : Int)] ++ Lib.strCells nm ++ fours [st.toNat, n, m]
def encG (gs : List (Int × Int)) : List Nat := (gs.map (fun g => [g.1.toNat, g.2.toNat])).flatten
theorem fours_app (a b : List Nat) : fours (a ++ b) = fours a ++ fours b := by simp [fours]
theorem encG_snoc (gs : List (Int × Int)) (k f t : Nat) (h : k < gs.length) (e : gs.getD k (0, 0) = ((f : Int), (t : Int))) : encG (gs.take (k + 1)) = encG (gs.take k) ++ [f, t] := by
  have e' : gs[k] = ((f : Int), (t : Int)) := by rw [← e]; simp [h]
  unfold encG
  rw [List.take_add_one, List.getElem?_eq_getElem h, e']
  simp only [Option.toList_some, List.map_append, List.map_cons, List.map_nil, List.flatten_append, List.flatten_cons, List.flatten_nil, List.append_nil, Int.toNat_natCast]
theorem encG_len (gs : List (Int × Int)) : (encG gs).length = 2 * gs.length := by
  induction gs with
  | nil => rfl
  | cons g l ih => simp only [encG, List.map_cons, List.flatten_cons, List.length_append, List.length_cons, List.length_nil] at ih ⊢; omega
def encL (bs : List Nat) : List Nat := bs.map (fun b => if b = 2147483648 then 0 else b)
theorem encL_snoc (bs : List Nat) (k : Nat) (h : k < bs.length) {y : Nat} (e : (if bs.getD k 0 = 2147483648 then 0 else bs.getD k 0) = y) : encL (bs.take (k + 1)) = encL (bs.take k) ++ [y] := by
  have e' : bs.getD k 0 = bs[k] := by simp [h]
  rw [e'] at e
  unfold encL
  rw [List.take_add_one, List.getElem?_eq_getElem h]
  simp only [Option.toList_some, List.map_append, List.map_cons, List.map_nil, e]
def encV (nm : ByteArray) (st : Int) (bs : List Nat) (gs : List (Int × Int)) : List Value := encH nm st bs.length gs.length ++ fours (encG gs) ++ fours (encL bs)

set_option maxRecDepth 1000000 in
set_option maxHeartbeats 8000000 in
theorem encode_any (nm : ByteArray) (st : Int) (lv gv : Value) (bs : List Nat) (gs : List (Int × Int)) (w : World) (hl : Rd w w.heap.size lv bs.length (flc bs)) (hg : Rd w w.heap.size gv gs.length (spc gs)) (V : Valid nm st bs gs) :
    Calls Tryz.prog 42 #[.agg #[.string nm, .int .i64 st, lv, gv]] w fun e w' => ∃ v, e = .returned (.tuple #[v, .int .i64 0]) ∧ w'.ownsRow w.heap.size 5 1 v (encV nm st bs gs).length (encV nm st bs gs) ∧ Below w.heap.size w w' := by
  obtain ⟨i0, hi, hz0, hz1, hz2⟩ := info_parts byteInfo
  have HL := hd hl
  have HG := hd hg
  have HV := hd V
  have hl2 := hl
  have hg2 := hg
  obtain ⟨A1, c1, rfl, hq1, hq2, -⟩ := hl2
  obtain ⟨A2, c2, rfl, hq3, hq4, -⟩ := hg2
  have hbn : bs.length ≤ 4096 := V.most
  unfold maxLen at hq2 hq4
  have hgs : gs.length ≤ 2048 := (chkSpans_ok gs V.spans).1
  have hst1 := V.start.1
  have hst2 := V.start.2
  have hnm : nm.size ≤ 24 := by have := V.name; unfold nameB at this; simp only [Bool.and_eq_true, decide_eq_true_eq] at this; exact this.1.2
  have HSP := hd (show ∀ k, k < gs.length → 0 ≤ (gs.getD k (0, 0)).1 ∧ (gs.getD k (0, 0)).1 ≤ (gs.getD k (0, 0)).2 ∧ (gs.getD k (0, 0)).2 ≤ 4096 from fun k hk => by have := V.ends k hk; have h2 := (chkSpans_ok gs V.spans).2.1 (gs.getD k (0, 0)) (by simp [hk]); omega)
  clear hl hg V
  go_enter Tryz.func42, Tryz.ntmps42
  go_wp2_with fail
  obtain ⟨W0, hW0⟩ : ∃ W0, W0 = w.alloc (.cells #[.string nm, .int .i64 st, .slice A1 bs.length c1, .slice A2 gs.length c2] 29) := ⟨_, rfl⟩
  have hsz : W0.heap.size = w.heap.size + 1 := by rw [hW0]; simp
  have hb0 : Below w.heap.size w W0 := by rw [hW0]; exact (Below.refl _ w).alloc (Nat.le_refl _) _
  have HRA := hd (show W0.heap[w.heap.size]? = some (.cells #[.string nm, .int .i64 st, .slice A1 bs.length c1, .slice A2 gs.length c2] 29 (0, 0)) by rw [hW0]; exact blk_new _ _ _)
  rw [← hW0]
  clear hW0
  have HRD := hd (fun (W : World) (hB : Below w.heap.size w W) => And.intro ((HL.out.below hB (Nat.le_refl _)).mono hB.size) ((HG.out.below hB (Nat.le_refl _)).mono hB.size))
  refine (chkRec_ok nm st _ _ bs gs _ (HRD.out _ hb0).1 (HRD.out _ hb0).2 HV.out).mono ?_
  rintro e w1 ⟨rfl, hb1⟩
  have hb1s := hb1.size
  have HW1 := hd (hb0.trans (hb1.mono hb0.size))
  have hra1 := (hb1.block _ (show w.heap.size < W0.heap.size by omega)).trans HRA.out
  have y0 := blk_cell hra1 0
  have y1 := blk_cell hra1 1
  have y2 := blk_cell hra1 2
  have y3 := blk_cell hra1 3
  simp at y0 y1 y2 y3
  have x0 := fun o => cell_alloc_old (o := o) y0
  have xx0 := fun o o' => cell_alloc_old (o := o') (x0 o)
  have HB1 := hd (And.intro hb1 hra1)
  have H63 := hd (show 4 + 1 ≤ maxLen by decide)
  have HBY := hd (show (4 + 1) * 1 ≤ 140737488355328 by decide)
  clear hb1 hra1 y1 y2 y3
  have hcv := Lib.run_convert_bytes_const (P := Tryz.prog) w1 88 5 #[.int .u8 84, .int .u8 73, .int .u8 68, .int .u8 69] 4 4 Tryz.underlying88 Tryz.underlying5
  have x0' : (w1.alloc (.cells #[.int .u8 84, .int .u8 73, .int .u8 68, .int .u8 69] 5 (4, 5))).cell? ⟨w.heap.size, 0, none⟩ = some (.string nm) := Lib.cell?_alloc_marked _ y0
  go_wp2_with (at_builtin; refine wpList_append_grows _ rfl _ _ 88 rfl 5 i0 (.int .u8 0) 1 1 Tryz.underlying88 hi hz0 hz1 hz2 rfl (by decide) (some ⟨w1.heap.size, 0, none⟩) 4 4 [.int .u8 84, .int .u8 73, .int .u8 68, .int .u8 69] rfl (fun h => by cases h) rfl ?co ⟨w1.heap.size + 1, 0, none⟩ 1 1 [.int .u8 (nm.size : Int)] rfl rfl ?cc (by simp [Value.oneCell']) (by decide) H63.out HBY.out ?_)
  case cc => simpa using cell_one_new (w1.alloc (.cells #[.int .u8 84, .int .u8 73, .int .u8 68, .int .u8 69] 5 (4, 5))) (.int .u8 (nm.size : Int)) 5
  case co =>
    intro b hb j u hj
    cases hb
    have h1 : ((w1.alloc (.cells #[.int .u8 84, .int .u8 73, .int .u8 68, .int .u8 69] 5 (4, 5))).alloc (.cells #[.int .u8 (nm.size : Int)] 5)).heap[w1.heap.size]? = some (.cells #[.int .u8 84, .int .u8 73, .int .u8 68, .int .u8 69] 5 (4, 5)) := by
      rw [Below.heap_alloc _ _ _ (by simp)]
      show (w1.heap.push _)[w1.heap.size]? = _
      simp
    have h2 : ∀ j, ((w1.alloc (.cells #[.int .u8 84, .int .u8 73, .int .u8 68, .int .u8 69] 5 (4, 5))).alloc (.cells #[.int .u8 (nm.size : Int)] 5)).cell? ⟨w1.heap.size, j, none⟩ = (#[.int .u8 84, .int .u8 73, .int .u8 68, .int .u8 69] : Array Value)[j]? := fun j => by simp [World.cell?, h1]
    match j, hj with
    | 0, hj => exact (h2 0).trans hj
    | 1, hj => exact (h2 1).trans hj
    | 2, hj => exact (h2 2).trans hj
    | 3, hj => exact (h2 3).trans hj
  intro v2 w2 hown2' hgrow2
  have hown2 : w2.ownsRow w1.heap.size 5 1 v2 5 [.int .u8 84, .int .u8 73, .int .u8 68, .int .u8 69, .int .u8 (nm.size : Int)] := own_base hown2' (by first | omega | (simp; omega))
  have hm12 : Below w1.heap.size w1 ((w1.alloc (.cells #[.int .u8 84, .int .u8 73, .int .u8 68, .int .u8 69] 5 (4, 5))).alloc (.cells #[.int .u8 (nm.size : Int)] 5)) := ((Below.refl _ w1).alloc (Nat.le_refl _) _).alloc (by simp) _
  have hb12 : Below w1.heap.size w1 w2 := hm12.trans (gb_below hgrow2 hm12.size (fun j hj => by cases hj))
  clear hown2' hm12
  have hnw : w.heap.size < w1.heap.size := by omega
  have hra2 := (hb12.block _ hnw).trans HB1.out.2
  have z0 := blk_cell hra2 0
  simp at z0
  have HE2 := hd (And.intro hown2 (And.intro hra2 hb12))
  obtain ⟨A3, c3, hv2, -⟩ := own_form hown2
  subst hv2
  have hs12 := hb12.size
  have H64 := hd (show 5 + nm.size ≤ maxLen by unfold maxLen; omega)
  have HBZ := hd (show 5 + nm.size ≤ 140737488355328 by omega)
  clear hown2 hgrow2 hra2 hb12 x0 xx0 y0 x0' hcv
  go_wp2_with (at_builtin; refine Lib.wpList_append_own_string _ rfl _ _ 88 9 rfl w1.heap.size 5 i0 Tryz.underlying88 Tryz.underlying9 hi hz0 hz1 hz2 _ _ _ rfl HE2.out.1 nm rfl H64.out HBZ.out hs12 ?_; intro v3 w3 hown3 hgrow3 _; have HO3 := hd (And.intro hown3 hgrow3); have hra3 := (hgrow3.block w.heap.size (by omega) (fun e => by have := (HE2.out.1.lt _ e.symm).1; omega)).trans HE2.out.2.1; have k1 := blk_cell hra3 1; have k2 := blk_cell hra3 2; have k3 := blk_cell hra3 3; simp at k1 k2 k3; clear hown3 hgrow3 hra3)
  obtain ⟨hown3, hgrow3⟩ := HO3.out
  have HI3 := hd (show EI w.heap.size w1.heap.size w1 #[.string nm, .int .i64 st, .slice A1 bs.length c1, .slice A2 gs.length c2] ([.int .u8 84, .int .u8 73, .int .u8 68, .int .u8 69, .int .u8 (nm.size : Int)] ++ Lib.strCells nm) v3 w3 from
    ⟨by rw [List.length_append, Lib.strCells_length]; exact hown3, (hgrow3.block w.heap.size (by omega) (fun e => by have := (HE2.out.1.lt _ e.symm).1; omega)).trans HE2.out.2.1, HE2.out.2.2.trans (gb_below hgrow3 (by omega) (fun j hj => (HE2.out.1.lt j hj).1))⟩)
  clear hown3 hgrow3 HO3 HE2
  obtain ⟨s, hs⟩ : ∃ s : Nat, st = (s : Int) := ⟨st.toNat, by omega⟩
  subst hs
  refine (HI3.out.put hnw (Nat.le_refl _) (w3.alloc (.cells #[.int .u32 (s : Int), .int .u32 (bs.length : Int), .int .u32 (gs.length : Int)] 149)) ((Below.refl _ w3).alloc (Nat.le_refl _) _) w3.heap.size (Nat.le_refl _) 3 3 [s, bs.length, gs.length] (Rd.new w3 #[.int .u32 (s : Int), .int .u32 (bs.length : Int), .int .u32 (gs.length : Int)] 149 3 _ rfl (by decide)) (by simp [Lib.strCells_length]; omega)).mono ?_
  rintro e w4 ⟨v4, rfl, HI4⟩
  have HI4 := hd HI4
  have k3' := blk_cell HI4.out.rcd 3
  have k2' := blk_cell HI4.out.rcd 2
  simp at k3' k2'
  clear k1 k2 k3
  go_wp2
  go_loopw [5, 45] (fun u i wr => ∃ k : Nat, k ≤ gs.length ∧ i = .int .i64 k ∧ Hid (EI w.heap.size w1.heap.size w1 #[.string nm, .int .i64 (s : Int), .slice A1 bs.length c1, .slice A2 gs.length c2] (encH nm (s : Int) bs.length gs.length ++ fours (encG (gs.take k))) u wr)) (fun _ i _ => gs.length - (intOf i).toNat)
  case atStart => exact ⟨0, Nat.zero_le _, rfl, hd (by have e : encH nm (s : Int) bs.length gs.length ++ fours (encG (gs.take 0)) = ([.int .u8 84, .int .u8 73, .int .u8 68, .int .u8 69, .int .u8 (nm.size : Int)] ++ Lib.strCells nm) ++ fours [s, bs.length, gs.length] := (by simp [encH, encG, fours]); rw [e]; exact HI4.out)⟩
  case round =>
    obtain ⟨k, hk, rfl, HI⟩ := hrel
    by_cases hlt : k < gs.length
    · have hbw := HW1.out.trans (HI.out.bel.mono (by omega))
      obtain ⟨A', c', e', -, -, hx⟩ := (HRD.out _ hbw).2
      cases e'
      obtain ⟨b, off, rfl, hbb, hcell⟩ := hx (by omega)
      obtain ⟨q1, q2⟩ := spc_getD gs k hlt
      have hs0 : wr.cell? ⟨b, off + k * 2, none⟩ = some (.int .i64 (gs.getD k (0, 0)).1) := (hcell (k * 2) (by rw [spc_len]; omega)).trans q1
      have hs1 : wr.cell? ⟨b, off + k * 2 + 1, none⟩ = some (.int .i64 (gs.getD k (0, 0)).2) := (hcell (k * 2 + 1) (by rw [spc_len]; omega)).trans q2
      have hsp := HSP.out k hlt
      obtain ⟨f, t, hft⟩ : ∃ f t : Nat, gs.getD k (0, 0) = ((f : Int), (t : Int)) := ⟨(gs.getD k (0, 0)).1.toNat, (gs.getD k (0, 0)).2.toNat, by
        have h1 : (((gs.getD k (0, 0)).1.toNat : Nat) : Int) = (gs.getD k (0, 0)).1 := by omega
        have h2 : (((gs.getD k (0, 0)).2.toNat : Nat) : Int) = (gs.getD k (0, 0)).2 := by omega
        rw [h1, h2]⟩
      rw [hft] at hs0 hs1 hsp
      simp only at hs0 hs1 hsp
      have HFT := hd hft
      have hki : (k : Int) < (gs.length : Int) := by omega
      have hwr := HI.out.bel.size
      clear hft q1 q2 hcell hx hbw
      have hlen : (encH nm (s : Int) bs.length gs.length ++ fours (encG (gs.take k))).length ≤ 100000 := by
        simp only [List.length_append, fours_len, encG_len, List.length_take, encH, Lib.strCells_length, List.length_cons, List.length_nil]; omega
      go_wp2_with fail
      refine (HI.out.put hnw (Nat.le_refl _) ((wr.alloc (.cells #[.int .i64 (f : Int), .int .i64 (t : Int)] 80)).alloc (.cells #[.int .u32 (f : Int), .int .u32 (t : Int)] 149)) (((Below.refl _ wr).alloc (Nat.le_refl _) _).alloc (by simp) _) (wr.heap.size + 1) (by omega) 2 2 [f, t] (by
        have := Rd.new (wr.alloc (.cells #[.int .i64 (f : Int), .int .i64 (t : Int)] 80)) #[.int .u32 (f : Int), .int .u32 (t : Int)] 149 2 _ rfl (by decide)
        simpa using this) (by show _ + 4 * 2 ≤ _; omega)).mono ?_
      rintro e w7 ⟨v7, rfl, h7⟩
      have HI7 := hd h7
      clear h7 hs0 hs1
      go_wp2
      go_roundw
      case rel => exact ⟨k + 1, by omega, by go_num, hd (by have := HI7.out; rw [List.append_assoc, ← fours_app, ← encG_snoc gs k f t hlt HFT.out] at this; exact this)⟩
      case measure => simp [intOf]; omega
    · obtain rfl : k = gs.length := by omega
      have k2 := blk_cell HI.out.rcd 2
      simp at k2
      have HJ := hd (show EI w.heap.size w1.heap.size w1 #[.string nm, .int .i64 (s : Int), .slice A1 bs.length c1, .slice A2 gs.length c2] (encH nm (s : Int) bs.length gs.length ++ fours (encG gs) ++ fours (encL (bs.take 0))) u5 wr by have := HI.out; rw [List.take_length] at this; simpa [encL, fours] using this)
      clear HI HI4 k2' k3'
      go_wp2
      go_loopw [5, 62] (fun u i wq => ∃ k : Nat, k ≤ bs.length ∧ i = .int .i64 k ∧ Hid (EI w.heap.size w1.heap.size w1 #[.string nm, .int .i64 (s : Int), .slice A1 bs.length c1, .slice A2 gs.length c2] (encH nm (s : Int) bs.length gs.length ++ fours (encG gs) ++ fours (encL (bs.take k))) u wq)) (fun _ i _ => bs.length - (intOf i).toNat)
      case atStart => exact ⟨0, Nat.zero_le _, rfl, HJ⟩
      case round =>
        obtain ⟨k, hk, rfl, HI⟩ := hrel
        by_cases hlt : k < bs.length
        · have hbw := HW1.out.trans (HI.out.bel.mono (by omega))
          obtain ⟨A', c', e', -, -, hx⟩ := (HRD.out _ hbw).1
          cases e'
          obtain ⟨b, off, rfl, hbb, hcell⟩ := hx (by omega)
          obtain ⟨x, hx'⟩ : ∃ x, x = bs.getD k 0 := ⟨_, rfl⟩
          have hc : wr.cell? ⟨b, off + k, none⟩ = some (.float .f32 x) := by
            have := hcell k (by simpa [flc] using hlt)
            rw [this, hx']; simp [flc, hlt]
          have HXE := hd hx'
          have hwr := HI.out.bel.size
          have hfb := f32bits_run x
          have hlen : (encH nm (s : Int) bs.length gs.length ++ fours (encG gs) ++ fours (encL (bs.take k))).length ≤ 100000 := by
            simp only [List.length_append, fours_len, encG_len, encL, List.length_map, List.length_take, encH, Lib.strCells_length, List.length_cons, List.length_nil]; omega
          clear hcell hx' hbw
          by_cases hq : x = 2147483648
          · subst hq
            go_wp2_with fail
            refine (HI.out.put hnw (Nat.le_refl _) (wr.alloc (.cells #[.int .u32 0] 149)) ((Below.refl _ wr).alloc (Nat.le_refl _) _) wr.heap.size (Nat.le_refl _) 1 1 [0] (Rd.new wr #[.int .u32 0] 149 1 _ rfl (by decide)) (by show _ + 4 * 1 ≤ _; omega)).mono ?_
            rintro e w7 ⟨v7, rfl, h7⟩
            have HI7 := hd h7
            clear h7 hc
            go_wp2
            go_roundw
            case rel => exact ⟨k + 1, by omega, by go_num, hd (by have := HI7.out; rw [List.append_assoc, ← fours_app, ← encL_snoc bs k hlt (by rw [← HXE.out]; simp)] at this; exact this)⟩
            case measure => simp [intOf]; omega
          · have hq' : decide ((x : Int) = 2147483648) = false := by simp; omega
            go_wp2_with fail
            refine (HI.out.put hnw (Nat.le_refl _) (wr.alloc (.cells #[.int .u32 (x : Int)] 149)) ((Below.refl _ wr).alloc (Nat.le_refl _) _) wr.heap.size (Nat.le_refl _) 1 1 [x] (Rd.new wr #[.int .u32 (x : Int)] 149 1 _ rfl (by decide)) (by show _ + 4 * 1 ≤ _; omega)).mono ?_
            rintro e w7 ⟨v7, rfl, h7⟩
            have HI7 := hd h7
            clear h7 hc
            go_wp2
            go_roundw
            case rel => exact ⟨k + 1, by omega, by go_num, hd (by have := HI7.out; rw [List.append_assoc, ← fours_app, ← encL_snoc bs k hlt (by rw [← HXE.out, if_neg hq])] at this; exact this)⟩
            case measure => simp [intOf]; omega
        · obtain rfl : k = bs.length := by omega
          have HJ2 := hd (show EI w.heap.size w1.heap.size w1 #[.string nm, .int .i64 (s : Int), .slice A1 bs.length c1, .slice A2 gs.length c2] (encV nm (s : Int) bs gs) u5 wr by have := HI.out; rw [List.take_length] at this; exact this)
          clear HI HJ
          go_wp2
          go_ret2
          exact ⟨_, rfl, own_base HJ2.out.own (by omega), HW1.out.trans (HJ2.out.bel.mono (by omega))⟩
end Go.Proofs.YtbmeadlamjppgaaGreatDoor
