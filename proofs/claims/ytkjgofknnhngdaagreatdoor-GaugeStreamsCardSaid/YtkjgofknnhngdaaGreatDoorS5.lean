/-
  Contract of ref.Encode at a valid record. Conditions: the record is valid; its levels are words of 32 bits.
-/
import Derived.Test.YtkjgofknnhngdaaGreatDoorProg
import Derived.Test.YtkjgofknnhngdaaGreatDoorS1
import Derived.Test.YtkjgofknnhngdaaGreatDoorSA
import Derived.Test.YtkjgofknnhngdaaGreatDoorMQ
import Derived.Test.YtkjgofknnhngdaaGreatDoorS2
import Derived.Lib.ConvBytes
namespace Go.Proofs.YtkjgofknnhngdaaGreatDoor
open Go.RowKit Go.Shelf
attribute [local go_sem] Oper.semAt_some

theorem run_addF {x y z : Nat} (h : floatBits .add .f32 x y = some z) (w : World) : (binOp .add 66 (.float .f32 x) (.float .f32 y)).run Tryz.prog w = .ok (.float .f32 z) w := by
  show (Op.floatArith .add .f32 x y).run Tryz.prog w = _
  have h' : FloatKind.f32.format.add x y = some z := h
  simp [Op.floatArith, h']
/-- What holds between the steps of the reference's Encode. -/
structure EJ (n₀ B : Nat) (w1 : World) (RC : Array Value) (xs : List Value) (v : Value) (W : World) : Prop where
  own : W.ownsRow B 5 1 v xs.length xs
  rcd : W.heap[n₀]? = some (.cells RC 25 (0, 0))
  bel : Below B w1 W
theorem EJ.grow {n₀ B : Nat} {w1 : World} {RC : Array Value} {xs ys : List Value} {v v' : Value} {W W' X : World} (h : EJ n₀ B w1 RC xs v W) (hn : n₀ < B) (hB : B ≤ w1.heap.size) (hX : Below W.heap.size W X) {n : Nat}
    (hown : W'.ownsRow B 5 1 v' n (xs ++ ys)) (hne : n = xs.length + ys.length) (hg : X.grownBy W' v.ownBlock) : EJ n₀ B w1 RC (xs ++ ys) v' W' := by
  have h1 := h.bel.size
  have h2 := hX.size
  refine ⟨by rw [List.length_append, ← hne]; exact hown, ?_, ?_⟩
  · refine (hg.block n₀ (by have := blk_lt h.rcd; omega) (fun e => ?_)).trans ((hX.block _ (blk_lt h.rcd)).trans h.rcd)
    have := (h.own.lt n₀ e.symm).1
    omega
  · exact (h.bel.trans (hX.mono (by omega))).grown hg (by omega) (fun j hj => (h.own.lt j hj).1)
theorem str_new (w : World) (e : TypeId) (s : ByteArray) : ∀ j u, (Lib.strCells s)[j]? = some u → (Lib.bytesWorld w e s).cell? ((⟨w.heap.size, 0, none⟩ : Addr).add j) = some u := by
  intro j u hj
  have hlt : j < s.size := by
    have h1 := (List.getElem?_eq_some_iff.1 hj).1
    rw [Lib.strCells_length] at h1; exact h1
  rw [strCells_at s j hlt] at hj
  have ha : (⟨w.heap.size, 0, none⟩ : Addr).add j = ⟨w.heap.size, j, none⟩ := by unfold Addr.add; split <;> simp_all
  rw [ha, Lib.bytesWorld_cell w e s j hlt, ← hj]
  rfl
theorem one_str (s : ByteArray) : ∀ u ∈ Lib.strCells s, u.oneCell' = true := by
  intro u hu
  unfold Lib.strCells at hu
  obtain ⟨b, -, rfl⟩ := List.mem_map.1 hu
  rfl
set_option maxRecDepth 1000000 in
set_option maxHeartbeats 8000000 in
theorem refEncode_any (nm : ByteArray) (st : Int) (lv gv : Value) (bs : List Nat) (gs : List (Int × Int)) (w : World) (hl : Rd w w.heap.size lv bs.length (flc bs)) (hg : Rd w w.heap.size gv gs.length (spc gs)) (V : Valid nm st bs gs) (h32 : ∀ j, j < bs.length → bs.getD j 0 < 4294967296) :
    Calls Tryz.prog 16 #[.agg #[.string nm, .int .i64 st, lv, gv]] w fun e w' => ∃ v, e = .returned v ∧ w'.ownsRow w.heap.size 5 1 v (encV nm st bs gs).length (encV nm st bs gs) ∧ Below w.heap.size w w' := by
  obtain ⟨i0, hi, hz0, hz1, hz2⟩ := info_parts byteInfo
  have HL := hd hl
  have HG := hd hg
  have HV := hd V
  have H32 := hd h32
  have hl2 := hl
  have hg2 := hg
  obtain ⟨A1, c1, rfl, hq1, hq2, -⟩ := hl2
  obtain ⟨A2, c2, rfl, hq3, hq4, -⟩ := hg2
  have hbn : bs.length ≤ 4096 := V.most
  unfold maxLen at hq2 hq4
  have hgs : gs.length ≤ 2048 := (chkSpans_ok gs V.spans).1
  have hst1 := V.start.1
  have hst2 := V.start.2
  have hnm : nm.size ≤ 24 := by have := V.name; unfold nameB at this; simp only [Bool.and_eq_true, decide_eq_true_eq] at this; exact this.1.2
  have HSP := hd (show ∀ k, k < gs.length → 0 ≤ (gs.getD k (0, 0)).1 ∧ (gs.getD k (0, 0)).1 ≤ (gs.getD k (0, 0)).2 ∧ (gs.getD k (0, 0)).2 ≤ 4096 from fun k hk => by have := V.ends k hk; have h2 := (chkSpans_ok gs V.spans).2.1 (gs.getD k (0, 0)) (by simp [hk]); omega)
  clear hl hg V h32
  obtain ⟨s, hs⟩ : ∃ s : Nat, st = (s : Int) := ⟨st.toNat, by omega⟩
  subst hs
  go_enter Tryz.func16, Tryz.ntmps16
  have hcv := Lib.run_convert_bytes_const (P := Tryz.prog) (w.alloc (.cells #[.string nm, .int .i64 (s : Int), .slice A1 bs.length c1, .slice A2 gs.length c2] 25)) 41 5 #[.int .u8 84, .int .u8 73, .int .u8 68, .int .u8 69] 4 4 Tryz.underlying41 Tryz.underlying5
  simp only [World.size_alloc] at hcv
  go_wp2_with (at_builtin; refine Hid.out ?_)
  refine hd ?_
  obtain ⟨w1, hw1⟩ : ∃ w1, w1 = w.alloc (.cells #[.string nm, .int .i64 (s : Int), .slice A1 bs.length c1, .slice A2 gs.length c2] 25) := ⟨_, rfl⟩
  have hs1 : w1.heap.size = w.heap.size + 1 := by rw [hw1]; simp
  have HR1 := hd (show w1.heap[w.heap.size]? = some (.cells #[.string nm, .int .i64 (s : Int), .slice A1 bs.length c1, .slice A2 gs.length c2] 25 (0, 0)) by rw [hw1]; exact blk_new _ _ _)
  have HB1 := hd (show Below w.heap.size w w1 by rw [hw1]; exact (Below.refl _ w).alloc (Nat.le_refl _) _)
  rw [← hw1, ← hs1]
  clear hw1 hcv
  have H63 := hd (show 4 + 1 ≤ maxLen by decide)
  have HBY := hd (show (4 + 1) * 1 ≤ 140737488355328 by decide)
  refine wpList_append_grows _ rfl _ _ 41 rfl 5 i0 (.int .u8 0) 1 1 Tryz.underlying41 hi hz0 hz1 hz2 rfl (by decide) (some ⟨w1.heap.size, 0, none⟩) 4 4 [.int .u8 84, .int .u8 73, .int .u8 68, .int .u8 69] rfl (fun h => by cases h) rfl ?co ⟨w1.heap.size + 1, 0, none⟩ 1 1 [.int .u8 (nm.size : Int)] rfl rfl ?cc (by simp [Value.oneCell']) (by decide) H63.out HBY.out ?_
  case cc => simpa using cell_one_new (w1.alloc (.cells #[.int .u8 84, .int .u8 73, .int .u8 68, .int .u8 69] 5 (4, 5))) (.int .u8 (nm.size : Int)) 5
  case co =>
    intro b hb j u hj
    cases hb
    have h1 : ((w1.alloc (.cells #[.int .u8 84, .int .u8 73, .int .u8 68, .int .u8 69] 5 (4, 5))).alloc (.cells #[.int .u8 (nm.size : Int)] 5)).heap[w1.heap.size]? = some (.cells #[.int .u8 84, .int .u8 73, .int .u8 68, .int .u8 69] 5 (4, 5)) := by
      rw [Below.heap_alloc _ _ _ (by simp)]
      show (w1.heap.push _)[w1.heap.size]? = _
      simp
    have h2 : ∀ j, ((w1.alloc (.cells #[.int .u8 84, .int .u8 73, .int .u8 68, .int .u8 69] 5 (4, 5))).alloc (.cells #[.int .u8 (nm.size : Int)] 5)).cell? ⟨w1.heap.size, j, none⟩ = (#[.int .u8 84, .int .u8 73, .int .u8 68, .int .u8 69] : Array Value)[j]? := fun j => by simp [World.cell?, h1]
    match j, hj with
    | 0, hj => exact (h2 0).trans hj
    | 1, hj => exact (h2 1).trans hj
    | 2, hj => exact (h2 2).trans hj
    | 3, hj => exact (h2 3).trans hj
  intro v2 w2 hown2' hgrow2
  have hown2 : w2.ownsRow w1.heap.size 5 1 v2 5 [.int .u8 84, .int .u8 73, .int .u8 68, .int .u8 69, .int .u8 (nm.size : Int)] := own_base hown2' (by first | omega | (simp; omega))
  have hm12 : Below w1.heap.size w1 ((w1.alloc (.cells #[.int .u8 84, .int .u8 73, .int .u8 68, .int .u8 69] 5 (4, 5))).alloc (.cells #[.int .u8 (nm.size : Int)] 5)) := ((Below.refl _ w1).alloc (Nat.le_refl _) _).alloc (by simp) _
  have hb12 : Below w1.heap.size w1 w2 := hm12.trans (gb_below hgrow2 hm12.size (fun j hj => by cases hj))
  have HE2 := hd (show EJ w.heap.size w1.heap.size w1 #[.string nm, .int .i64 (s : Int), .slice A1 bs.length c1, .slice A2 gs.length c2] [.int .u8 84, .int .u8 73, .int .u8 68, .int .u8 69, .int .u8 (nm.size : Int)] v2 w2 from ⟨hown2, (hb12.block _ (by omega)).trans HR1.out, hb12⟩)
  obtain ⟨A3, c3, hv2, -⟩ := own_form hown2
  subst hv2
  have hnw : w.heap.size < w1.heap.size := by omega
  have k0 := blk_cell HE2.out.rcd 0
  simp at k0
  have hcv2 := Lib.run_convert_string_bytes (P := Tryz.prog) w2 9 41 5 nm Tryz.underlying9 Tryz.underlying41 Tryz.underlying5
  clear hown2 hown2' hgrow2 hm12 hb12
  have G63 := hd (show 5 + nm.size ≤ maxLen by unfold maxLen; omega)
  have GBY := hd (show (5 + nm.size) * 1 ≤ 140737488355328 by omega)
  have HBW := hd (show Below w2.heap.size w2 (Lib.bytesWorld w2 5 nm) from ⟨rfl, rfl, rfl, by rw [Lib.bytesWorld_size]; omega, fun j hj => Lib.bytesWorld_at_old w2 _ nm j hj⟩)
  have GSZ := hd (show w1.heap.size ≤ (Lib.bytesWorld w2 5 nm).heap.size from Nat.le_trans HE2.out.bel.size HBW.out.size)
  go_wp2_with (at_builtin; refine wpList_append_own_at _ rfl _ _ 41 rfl w1.heap.size 5 i0 (.int .u8 0) 1 1 Tryz.underlying41 hi hz0 hz1 hz2 rfl (by decide) _ _ _ rfl (own_bel HE2.out.own HBW.out) ⟨w2.heap.size, 0, none⟩ nm.size _ (Lib.strCells nm) rfl (by rw [Lib.strCells_length]; omega) (str_new w2 _ nm) (one_str nm) G63.out GBY.out GSZ.out ?_; intro v3 w3 hown' hgrow _ _; have HE3' := hd (HE2.out.grow hnw (Nat.le_refl _) (HBW.out) hown' (by rw [Lib.strCells_length]) hgrow); have k1 := blk_cell HE3'.out.rcd 1; simp at k1; obtain ⟨A4, c4, hve, -⟩ := own_form hown'; subst hve; clear hown' hgrow)
  obtain ⟨X0, hX0⟩ : ∃ X0 : List Value, X0 = [.int .u8 84, .int .u8 73, .int .u8 68, .int .u8 69, .int .u8 (nm.size : Int)] ++ Lib.strCells nm := ⟨_, rfl⟩
  have HL0 := hd (show X0.length = 5 + nm.size by rw [hX0, List.length_append, Lib.strCells_length]; rfl)
  have HX0 := hd hX0
  have HE3 := hd (show EJ w.heap.size w1.heap.size w1 #[.string nm, .int .i64 (s : Int), .slice A1 bs.length c1, .slice A2 gs.length c2] X0 (.slice A4 (5 + nm.size) c4) w3 from by rw [hX0]; exact HE3'.out)
  clear HE3' HE2 hX0 G63 GBY GSZ HBW hcv2 k0
  refine (four_any (s) (by omega) _).mono ?_
  rintro e y3 ⟨rfl, rfl⟩
  have G63 := hd (show (X0).length + 4 ≤ maxLen by unfold maxLen; (try simp only [List.length_append, List.length_cons, List.length_nil, four]); have := HL0.out; omega)
  have GBY := hd (show ((X0).length + 4) * 1 ≤ 140737488355328 by (try simp only [List.length_append, List.length_cons, List.length_nil, four]); have := HL0.out; omega)
  have GSZ := hd (show w1.heap.size ≤ (w3.alloc (.cells (four (s)).toArray 5)).heap.size from by have := HE3.out.bel.size; simp; omega)
  go_wp2_with (at_builtin; refine wpList_append_own_at _ rfl _ _ 41 rfl w1.heap.size 5 i0 (.int .u8 0) 1 1 Tryz.underlying41 hi hz0 hz1 hz2 rfl (by decide) _ _ _ rfl (HE3.out.own.alloc _) ⟨w3.heap.size, 0, none⟩ 4 4 (four (s)) rfl rfl (cell_four_new _ _ _ _ _ _) (by simp [four, Value.oneCell']) G63.out GBY.out GSZ.out ?_; intro v4 w4 hown' hgrow _ _; have HE4 := hd (HE3.out.grow hnw (Nat.le_refl _) ((Below.refl _ w3).alloc (Nat.le_refl _) _) hown' rfl hgrow); have k2 := blk_cell HE4.out.rcd 2; simp at k2; obtain ⟨A5, c5, hve, -⟩ := own_form hown'; subst hve; clear hown' hgrow)
  clear k1 G63 GBY GSZ HE3
  obtain ⟨X1, hX1⟩ : ∃ X1 : List Value, X1 = X0 ++ four (s) := ⟨_, rfl⟩
  rw [← hX1] at HE4
  have HL1 := hd (show X1.length = X0.length + 4 by rw [hX1, List.length_append]; rfl)
  have HX1 := hd hX1
  clear hX1
  refine (four_any (bs.length) (by omega) _).mono ?_
  rintro e y4 ⟨rfl, rfl⟩
  have G63 := hd (show (X1).length + 4 ≤ maxLen by unfold maxLen; (try simp only [List.length_append, List.length_cons, List.length_nil, four]); have := HL0.out; have := HL1.out; omega)
  have GBY := hd (show ((X1).length + 4) * 1 ≤ 140737488355328 by (try simp only [List.length_append, List.length_cons, List.length_nil, four]); have := HL0.out; have := HL1.out; omega)
  have GSZ := hd (show w1.heap.size ≤ (w4.alloc (.cells (four (bs.length)).toArray 5)).heap.size from by have := HE4.out.bel.size; simp; omega)
  go_wp2_with (at_builtin; refine wpList_append_own_at _ rfl _ _ 41 rfl w1.heap.size 5 i0 (.int .u8 0) 1 1 Tryz.underlying41 hi hz0 hz1 hz2 rfl (by decide) _ _ _ rfl (HE4.out.own.alloc _) ⟨w4.heap.size, 0, none⟩ 4 4 (four (bs.length)) rfl rfl (cell_four_new _ _ _ _ _ _) (by simp [four, Value.oneCell']) G63.out GBY.out GSZ.out ?_; intro v5 w5 hown' hgrow _ _; have HE5 := hd (HE4.out.grow hnw (Nat.le_refl _) ((Below.refl _ w4).alloc (Nat.le_refl _) _) hown' rfl hgrow); have k3 := blk_cell HE5.out.rcd 3; simp at k3; obtain ⟨A6, c6, hve, -⟩ := own_form hown'; subst hve; clear hown' hgrow)
  clear k2 G63 GBY GSZ HE4
  obtain ⟨X2, hX2⟩ : ∃ X2 : List Value, X2 = X1 ++ four (bs.length) := ⟨_, rfl⟩
  rw [← hX2] at HE5
  have HL2 := hd (show X2.length = X1.length + 4 by rw [hX2, List.length_append]; rfl)
  have HX2 := hd hX2
  clear hX2
  refine (four_any (gs.length) (by omega) _).mono ?_
  rintro e y5 ⟨rfl, rfl⟩
  have G63 := hd (show (X2).length + 4 ≤ maxLen by unfold maxLen; (try simp only [List.length_append, List.length_cons, List.length_nil, four]); have := HL0.out; have := HL1.out; have := HL2.out; omega)
  have GBY := hd (show ((X2).length + 4) * 1 ≤ 140737488355328 by (try simp only [List.length_append, List.length_cons, List.length_nil, four]); have := HL0.out; have := HL1.out; have := HL2.out; omega)
  have GSZ := hd (show w1.heap.size ≤ (w5.alloc (.cells (four (gs.length)).toArray 5)).heap.size from by have := HE5.out.bel.size; simp; omega)
  go_wp2_with (at_builtin; refine wpList_append_own_at _ rfl _ _ 41 rfl w1.heap.size 5 i0 (.int .u8 0) 1 1 Tryz.underlying41 hi hz0 hz1 hz2 rfl (by decide) _ _ _ rfl (HE5.out.own.alloc _) ⟨w5.heap.size, 0, none⟩ 4 4 (four (gs.length)) rfl rfl (cell_four_new _ _ _ _ _ _) (by simp [four, Value.oneCell']) G63.out GBY.out GSZ.out ?_; intro v6 w6 hown' hgrow _ _; have HE6 := hd (HE5.out.grow hnw (Nat.le_refl _) ((Below.refl _ w5).alloc (Nat.le_refl _) _) hown' rfl hgrow); have k3 := blk_cell HE6.out.rcd 3; simp at k3; obtain ⟨A7, c7, hve, -⟩ := own_form hown'; subst hve; clear hown' hgrow)
  clear k3 G63 GBY GSZ HE5
  obtain ⟨X3, hX3⟩ : ∃ X3 : List Value, X3 = X2 ++ four (gs.length) := ⟨_, rfl⟩
  rw [← hX3] at HE6
  have HL3 := hd (show X3.length = X2.length + 4 by rw [hX3, List.length_append]; rfl)
  have HX3 := hd hX3
  clear hX3
  have HG6 := hd (fun (W : World) (hB : Below w1.heap.size w1 W) => (HG.out.below (HB1.out.trans (hB.mono HB1.out.size)) (Nat.le_refl _)).mono (HB1.out.trans (hB.mono HB1.out.size)).size)
  have HL6 := hd (fun (W : World) (hB : Below w1.heap.size w1 W) => (HL.out.below (HB1.out.trans (hB.mono HB1.out.size)) (Nat.le_refl _)).mono (HB1.out.trans (hB.mono HB1.out.size)).size)
  have HLX := hd (show X3.length ≤ 100 by have := HL0.out; have := HL1.out; have := HL2.out; have := HL3.out; omega)
  clear HL1 HL2 HL3 HL0
  have HII := hd (And.intro hi (And.intro hz0 (And.intro hz1 hz2)))
  go_loopw [3, 4] (fun u i wr => ∃ k : Nat, k ≤ gs.length ∧ i = .int .i64 k ∧ Hid (∃ A n c, u = .slice A n c ∧ EJ w.heap.size w1.heap.size w1 #[.string nm, .int .i64 (s : Int), .slice A1 bs.length c1, .slice A2 gs.length c2] (X3 ++ fours (encG (gs.take k))) u wr)) (fun _ i _ => gs.length - (intOf i).toNat)
  case atStart => exact ⟨0, Nat.zero_le _, rfl, hd ⟨_, _, _, rfl, by have e : X3 ++ fours (encG (gs.take 0)) = X3 := (by simp [encG, fours]); rw [e]; exact HE6.out⟩⟩
  case round =>
    obtain ⟨k, hk, rfl, HI'⟩ := hrel
    obtain ⟨AU, nu, cu, hu, HI0⟩ := HI'.out
    subst hu
    have HI := hd HI0
    clear HI0 HI' HE6
    by_cases hlt : k < gs.length
    · obtain ⟨A', c', e', -, -, hx⟩ := HG6.out _ HI.out.bel
      cases e'
      obtain ⟨b, off, rfl, hbb', hcell'⟩ := hx (by omega)
      obtain ⟨q1, q2⟩ := spc_getD gs k hlt
      have hsp := HSP.out k hlt
      obtain ⟨f, t, hft⟩ : ∃ f t : Nat, gs.getD k (0, 0) = ((f : Int), (t : Int)) := ⟨(gs.getD k (0, 0)).1.toNat, (gs.getD k (0, 0)).2.toNat, by
        have h1 : (((gs.getD k (0, 0)).1.toNat : Nat) : Int) = (gs.getD k (0, 0)).1 := by omega
        have h2 : (((gs.getD k (0, 0)).2.toNat : Nat) : Int) = (gs.getD k (0, 0)).2 := by omega
        rw [h1, h2]⟩
      rw [hft] at q1 q2 hsp
      simp only at q1 q2 hsp
      have HCF := hd (fun (X : World) (hX : Below w1.heap.size w1 X) => show X.cell? ⟨w.heap.size, 3, none⟩ = some (.slice (some ⟨b, off, none⟩) gs.length c2) ∧ X.cell? ⟨b, off + k * 2, none⟩ = some (.int .i64 (f : Int)) ∧ X.cell? ⟨b, off + k * 2 + 1, none⟩ = some (.int .i64 (t : Int)) from by
        obtain ⟨A'', c'', e'', -, -, hx2⟩ := HG6.out X hX
        cases e''
        obtain ⟨b2, o2, e2, -, hc2⟩ := hx2 (by omega)
        cases e2
        exact ⟨by simpa using blk_cell ((hX.block _ (by omega)).trans HR1.out) 3, (hc2 (k * 2) (by rw [spc_len]; omega)).trans q1, (hc2 (k * 2 + 1) (by rw [spc_len]; omega)).trans q2⟩)
      have HFT := hd hft
      obtain ⟨Y, hY⟩ : ∃ Y : List Value, Y = X3 ++ fours (encG (gs.take k)) := ⟨_, rfl⟩
      have HYL := hd (show Y.length ≤ 20000 by rw [hY]; have := HLX.out; simp only [List.length_append, fours_len, encG_len, List.length_take]; omega)
      rw [← hY] at HI
      have HY := hd hY
      have hkx : (k : Int) < (gs.length : Int) := by omega
      have hky : (0 : Int) ≤ (k : Int) := by omega
      have hwf : IntKind.u32.wrap (f : Int) = (f : Int) := u32_wrap_id _ (by omega) (by omega)
      have hwt : IntKind.u32.wrap (t : Int) = (t : Int) := u32_wrap_id _ (by omega) (by omega)
      have G63 := hd (show Y.length + 4 + 4 ≤ maxLen by have := HYL.out; unfold maxLen; omega)
      have GBY := hd (show (Y.length + 4 + 4) * 1 ≤ 140737488355328 by have := HYL.out; omega)
      have m := HCF.out wr HI.out.bel
      obtain ⟨m0, m1, m2⟩ := m
      clear hx hcell' q1 q2 hft hY
      go_wp2_with fail
      go_region_held3 (fun x => x.cell? ⟨w.heap.size, 3, none⟩ = some (.slice (some ⟨b, off, none⟩) gs.length c2) ∧ x.cell? ⟨b, off + k * 2, none⟩ = some (.int .i64 (f : Int)) ∧ x.cell? ⟨b, off + k * 2 + 1, none⟩ = some (.int .i64 (t : Int))) (go_keep)
        (first
          | (refine step_append_ownS y3 (by rfl) (.tmp 55) (.tmp 63) 41 (by rfl) w1.heap.size 5 i0 (.int .u8 0) 1 1 Tryz.underlying41 HII.out.1 HII.out.2.1 HII.out.2.2.1 HII.out.2.2.2 rfl (by decide) (.slice A9 (Y.length + 4) c9) (Y.length + 4) (Y ++ four f) (by rfl) (own_belS HO2.out HB3.out) ⟨y2.heap.size, 0, none⟩ 4 4 (four t) (by rfl) (by rfl) HN3.out (by simp [four, Value.oneCell']) (by have := G63.out; omega) (by have := GBY.out; omega) (by have h1 := HJ2.out.bel.size; have h2 := HB3.out.size; omega) ?_; intro v4 y4 hown' hg4 _; have HJ4 := hd (HJ2.out.grow hnw (Nat.le_refl _) HB3.out hown' (by rw [List.length_append]; rfl) hg4); obtain ⟨A10, c10, hv5, -⟩ := own_form hown'; subst hv5; have r := HCF.out y4 (HJ4.out.bel); obtain ⟨r0, r1, r2⟩ := r; clear hown' hg4)
          | (go_at_call 66; refine (four_any t (by omega) y2).mono ?_; rintro e y3 ⟨rfl, hy⟩; have HB3 := hd (show Below y2.heap.size y2 y3 from by rw [hy]; exact (Below.refl _ _).alloc (Nat.le_refl _) _); have HN3 := hd (show ∀ j u, (four t)[j]? = some u → y3.cell? ((⟨y2.heap.size, 0, none⟩ : Addr).add j) = some u from by rw [hy]; exact cell_four_new _ _ _ _ _ _); clear hy; have q := HCF.out y3 (HJ2.out.bel.trans (HB3.out.mono HJ2.out.bel.size)); obtain ⟨q0, q1, q2⟩ := q)
          | (refine step_append_ownS y1 (by rfl) (.tmp 46) (.tmp 54) 41 (by rfl) w1.heap.size 5 i0 (.int .u8 0) 1 1 Tryz.underlying41 HII.out.1 HII.out.2.1 HII.out.2.2.1 HII.out.2.2.2 rfl (by decide) (.slice AU nu cu) Y.length Y (by rfl) (own_belS HI.out.own HBY.out) ⟨wr.heap.size, 0, none⟩ 4 4 (four f) (by rfl) (by rfl) HN2.out (by simp [four, Value.oneCell']) (by have := G63.out; omega) (by have := GBY.out; omega) (by have h1 := HI.out.bel.size; have h2 := HBY.out.size; omega) ?_; intro v2 y2 hown' hg4 _; have HJ2 := hd (HI.out.grow hnw (Nat.le_refl _) HBY.out hown' rfl hg4); obtain ⟨A9, c9, hv5, -⟩ := own_form hown'; subst hv5; have HO2 := hd hown'; have p := HCF.out y2 (HJ2.out.bel); obtain ⟨p0, p1, p2⟩ := p; clear hown' hg4)
          | (go_at_call 66; refine (four_any f (by omega) wr.drew).mono ?_; rintro e y1 ⟨rfl, hy⟩; have HB2 := hd (show Below wr.drew.heap.size wr.drew y1 from by rw [hy]; exact (Below.refl _ _).alloc (Nat.le_refl _) _); have HN2 := hd (show ∀ j u, (four f)[j]? = some u → y1.cell? ((⟨wr.drew.heap.size, 0, none⟩ : Addr).add j) = some u from by rw [hy]; exact cell_four_new _ _ _ _ _ _); clear hy; have HBY := hd (show Below wr.heap.size wr y1 from (Below.refl _ wr).drew.trans HB2.out); have n := HCF.out y1 (HI.out.bel.trans (HBY.out.mono HI.out.bel.size)); obtain ⟨n0, n1, n2⟩ := n))
      all_goals
        clear hwf hwt
        go_wp2_with fail
        go_roundw
        case rel => exact ⟨k + 1, by omega, by go_num, hd ⟨_, _, _, rfl, by have e : (Y ++ four f) ++ four t = X3 ++ fours (encG (gs.take (k + 1))) := (by rw [HY.out, encG_snoc gs k f t hlt HFT.out, fours_app]; simp [fours]); rw [← e]; exact HJ4.out⟩⟩
        case measure => simp [intOf]; omega
    · obtain rfl : k = gs.length := by omega
      rw [List.take_length] at HI
      obtain ⟨Z, hZ⟩ : ∃ Z : List Value, Z = X3 ++ fours (encG gs) := ⟨_, rfl⟩
      have HZL := hd (show Z.length ≤ 20000 by rw [hZ]; have := HLX.out; simp only [List.length_append, fours_len, encG_len]; omega)
      rw [← hZ] at HI
      have HZ := hd hZ
      have k2 := blk_cell HI.out.rcd 2
      have k3 := blk_cell HI.out.rcd 3
      simp at k2 k3
      clear hZ
      go_wp2_with fail
      go_loopw [3, 5] (fun u i wr => ∃ j : Nat, j ≤ bs.length ∧ i = .int .i64 j ∧ Hid (∃ A n c, u = .slice A n c ∧ EJ w.heap.size w1.heap.size w1 #[.string nm, .int .i64 (s : Int), .slice A1 bs.length c1, .slice A2 gs.length c2] (Z ++ fours (encL (bs.take j))) u wr)) (fun _ i _ => bs.length - (intOf i).toNat)
      case atStart => exact ⟨0, Nat.zero_le _, rfl, hd ⟨_, _, _, rfl, by have e : Z ++ fours (encL (bs.take 0)) = Z := (by simp [encL, fours]); rw [e]; exact HI.out⟩⟩
      case round =>
        obtain ⟨j, hj, rfl, HI'⟩ := hrel
        obtain ⟨AV, nv, cv, hv, HI0⟩ := HI'.out
        subst hv
        have HJ := hd HI0
        clear HI0 HI' k2 k3 HI
        have k2 := blk_cell HJ.out.rcd 2
        simp at k2
        by_cases hlt2 : j < bs.length
        · obtain ⟨A', c', e', -, -, hx⟩ := HL6.out _ HJ.out.bel
          cases e'
          obtain ⟨b, off, rfl, hbb', hcell'⟩ := hx (by omega)
          obtain ⟨x, hxe⟩ : ∃ x, x = bs.getD j 0 := ⟨_, rfl⟩
          have hcx : wr.cell? ⟨b, off + j, none⟩ = some (.float .f32 x) := by
            have := hcell' j (by simpa [flc] using hlt2)
            rw [this, hxe]; simp [flc, hlt2]
          have hlv := HV.out.lev j hlt2
          rw [← hxe, levOK_iff] at hlv
          have hxb : x < 4294967296 := by rw [hxe]; exact H32.out j hlt2
          have hadd := add_zero (of_decide_eq_true hlv) hxb
          obtain ⟨y, hy⟩ : ∃ y, y = (if x = 2147483648 then 0 else x) := ⟨_, rfl⟩
          rw [← hy] at hadd
          have HYS := hd (encL_snoc bs j hlt2 (y := y) (by rw [← hxe]; exact hy.symm))
          have hyb : y < 4294967296 := by rw [hy]; split <;> omega
          have hfb := f32bits_run y
          have hba := run_addF hadd
          obtain ⟨Y, hY⟩ : ∃ Y : List Value, Y = Z ++ fours (encL (bs.take j)) := ⟨_, rfl⟩
          have HYL := hd (show Y.length ≤ 60000 by rw [hY]; have := HZL.out; simp only [List.length_append, fours_len, encL, List.length_map, List.length_take]; omega)
          rw [← hY] at HJ
          have HY := hd hY
          have hji : (j : Int) < (bs.length : Int) := by omega
          have G63 := hd (show Y.length + 4 ≤ maxLen by have := HYL.out; unfold maxLen; omega)
          have GBY := hd (show (Y.length + 4) * 1 ≤ 140737488355328 by have := HYL.out; omega)
          have GSZ := hd (show w1.heap.size ≤ (wr.alloc (.cells (four y).toArray 5)).heap.size from by have := HJ.out.bel.size; simp; omega)
          clear hx hcell' hxe hlv hy hY hxb
          go_wp2_with fail
          refine (four_any y hyb _).mono ?_
          rintro e y1 ⟨rfl, rfl⟩
          go_wp2_with (at_builtin; refine wpList_append_own_at _ rfl _ _ 41 rfl w1.heap.size 5 i0 (.int .u8 0) 1 1 Tryz.underlying41 hi hz0 hz1 hz2 rfl (by decide) _ _ _ rfl (HJ.out.own.alloc _) ⟨wr.heap.size, 0, none⟩ 4 4 (four y) rfl rfl (cell_four_new _ _ _ _ _ _) (by simp [four, Value.oneCell']) G63.out GBY.out GSZ.out ?_; intro v5 y5 hown' hgrow _ _; have HJ5 := hd (HJ.out.grow hnw (Nat.le_refl _) ((Below.refl _ wr).alloc (Nat.le_refl _) _) hown' rfl hgrow); obtain ⟨A9, c9, hve, -⟩ := own_form hown'; subst hve; clear hown' hgrow)
          go_roundw
          case rel => exact ⟨j + 1, by omega, by go_num, hd ⟨_, _, _, rfl, by have e : Y ++ four y = Z ++ fours (encL (bs.take (j + 1))) := (by rw [HY.out, HYS.out, fours_app]; simp [fours]); rw [← e]; exact HJ5.out⟩⟩
          case measure => simp [intOf]; omega
        · obtain rfl : j = bs.length := by omega
          rw [List.take_length] at HJ
          have HE9 := hd (show Z ++ fours (encL bs) = encV nm (s : Int) bs gs by rw [HZ.out, HX3.out, HX2.out, HX1.out, HX0.out]; simp [encV, encH, fours, four])
          go_wp2_with fail
          go_returns
          rw [← HE9.out]
          exact ⟨_, rfl, own_base HJ.out.own (by omega), HB1.out.trans (HJ.out.bel.mono HB1.out.size)⟩
end Go.Proofs.YtkjgofknnhngdaaGreatDoor
