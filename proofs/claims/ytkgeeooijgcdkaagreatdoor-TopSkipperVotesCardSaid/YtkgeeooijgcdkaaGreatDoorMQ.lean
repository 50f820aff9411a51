/-
  Contracts of the library's string builder at this program: the copy check, and a string written behind what is there. No condition but room.
  Contract of gauge.Print at a valid record. Conditions: the record is valid; what strconv.Itoa gives at the integers that are printed.
  Contract of gauge.putWords. Condition: room.
  Contract of gauge.Encode at a valid record.
-/
import Derived.Test.YtkgeeooijgcdkaaGreatDoorProg
import Derived.Test.YtkgeeooijgcdkaaGreatDoorShelfB
import Derived.Test.YtkgeeooijgcdkaaGreatDoorMA
import Derived.Shelf.Strings.BuilderK
import Derived.Test.YtkgeeooijgcdkaaGreatDoorMK
import Derived.Test.YtkgeeooijgcdkaaGreatDoorV9
import Derived.Maps.AppendAt
import Derived.Lib.SlBytesConst
import Derived.ArgAppend

namespace Go.Proofs.YtkgeeooijgcdkaaGreatDoor
open Go.RowKit Go.Shelf
attribute [local go_sem] Oper.semAt_some

theorem bldInfo : (Tryz.prog.info? 94).map (·.size) = some 2 := by kernel_rfl
theorem bldLies : liesAt Tryz.prog Tryz.prog.depth 94 (2 / Tryz.prog.cellsOf 94) 0 94 1 = true := by kernel_rfl
theorem byteInfo : (Tryz.prog.info? 5).map (fun i => (i.zero, i.size, i.bytes)) = some (some (.int .u8 0), 1, 1) := by kernel_rfl

set_option maxHeartbeats 1000000 in
set_option maxRecDepth 100000 in
theorem cc_used (b : Nat) (w : World) (h0 : w.cell? ⟨b, 0, none⟩ = some (.pointer (some ⟨b, 0, none⟩))) :
    Calls Tryz.prog 69 #[.pointer (some ⟨b, 0, none⟩)] w fun e w' => e = .returned (.tuple #[]) ∧ w' = w := by
  obtain ⟨j, hj, _⟩ := Option.map_eq_some_iff.1 bldInfo
  go_enter Tryz.func69, Tryz.ntmps69
  go_wp2
  rw [Lib.run_neq_ptr_same w _ Tryz.underlying91 hj]
  go_wp2
  go_end0
  exact ⟨rfl, rfl⟩

set_option maxHeartbeats 1000000 in
set_option maxRecDepth 100000 in
theorem cc_fresh (b : Nat) (w : World) (h0 : w.cell? ⟨b, 0, none⟩ = some (.pointer none)) (hsh : w.shape? b = some (94, 2)) (hfz : w.frozen? ⟨b, 0, none⟩ = false) :
    Calls Tryz.prog 69 #[.pointer (some ⟨b, 0, none⟩)] w fun e w' => e = .returned (.tuple #[]) ∧ w' = w.setCell ⟨b, 0, none⟩ (.pointer (some ⟨b, 0, none⟩)) := by
  obtain ⟨j, hj, hjs⟩ := Option.map_eq_some_iff.1 bldInfo
  go_enter Tryz.func69, Tryz.ntmps69
  go_wp2
  rw [Lib.run_to_unsafe w ⟨b, 0, none⟩ Tryz.underlying91 Tryz.underlying141 hj (by rw [hjs]; decide) hsh (Nat.zero_lt_succ 1)]
  simp only [Result.andThen]
  rw [Oper.upon_value]
  go_wp2
  rw [run_callFunc_extern Tryz.func94 (by kernel_rfl) (by kernel_rfl) (by kernel_rfl) (e := Extern.AbiNoEscape.same) (by kernel_rfl)]
  rw [Lib.run_noEscape]
  simp only [Result.andThen]
  rw [Oper.upon_value]
  go_wp2
  rw [Lib.run_from_unsafe w ⟨b, 0, none⟩ Tryz.underlying141 Tryz.underlying91 hj hsh bldLies]
  simp only [Result.andThen]
  rw [Oper.upon_value]
  go_wp2
  go_end0
  exact ⟨rfl, rfl⟩

theorem cc_any (B b : Nat) (bs : List Value) (w : World) (h : Lib.IsBuilderF 94 5 B b bs w) :
    Calls Tryz.prog 69 #[.pointer (some ⟨b, 0, none⟩)] w fun e w' => e = .returned (.tuple #[]) ∧ (Lib.BuilderAtF 94 5 B b (.pointer (some ⟨b, 0, none⟩)) bs w' ∧ Below B w w' ∧ Lib.OthersKept 5 (some b) w w') := by
  rcases h with h | h
  · refine (cc_fresh b w h.cell0 h.shape h.frozen0).mono ?_
    rintro e w' ⟨rfl, rfl⟩
    exact ⟨rfl, h.used _, (Below.refl B w).setCell (p := ⟨b, 0, none⟩) h.1 _, (Lib.OthersKept.refl _ _ w).setCell ⟨b, 0, none⟩ rfl _⟩
  · refine (cc_used b w h.cell0).mono ?_
    rintro e w' ⟨rfl, rfl⟩
    exact ⟨rfl, h, Below.refl B _, Lib.OthersKept.refl _ _ _⟩

set_option maxHeartbeats 2000000 in
set_option maxRecDepth 100000 in
theorem ws_any (B b : Nat) (bs : List Value) (s : ByteArray) (w : World) (h : Lib.IsBuilderF 94 5 B b bs w) (hlen : bs.length + s.size ≤ 140737488355328) (hBw : B ≤ w.heap.size) :
    Calls Tryz.prog 44 #[.pointer (some ⟨b, 0, none⟩), .string s] w fun e w' => e = .returned (.tuple #[.int .i64 s.size, .nilIface]) ∧ (Lib.BuilderAtF 94 5 B b (.pointer (some ⟨b, 0, none⟩)) (bs ++ Lib.strCells s) w' ∧ Below B w w' ∧ Lib.OthersKept 5 (some b) w w') := by
  obtain ⟨i0, hi, hz0, hz1, hz2⟩ := info_parts byteInfo
  go_enter Tryz.func44, Tryz.ntmps44
  go_wp2_with (go_at_call 69; refine (cc_any B b bs _ h).mono ?_)
  rintro e w1 ⟨rfl, h1, hb1, hk1⟩
  obtain ⟨hB, v, hbk, hown, hne⟩ := h1
  have c0 : w1.cell? ⟨b, 0, none⟩ = some (.pointer (some ⟨b, 0, none⟩)) := by rw [Lib.cell_of_heap hbk]; rfl
  have c1 : w1.cell? ⟨b, 1, none⟩ = some v := by rw [Lib.cell_of_heap hbk]; rfl
  go_wp2_with (at_builtin; refine Lib.wpList_append_own_stringF _ rfl _ _ 92 9 rfl B 5 i0 Tryz.underlying92 Tryz.underlying9 hi hz0 hz1 hz2 _ _ _ rfl hown s rfl ?c3 ?c4 ?c5 ?_)
  case c3 => unfold maxLen; omega
  case c4 => omega
  case c5 => have := hb1.size; omega
  intro v' w2 hown' hgrow _
  have hlt : b < w1.heap.size := by
    rcases Nat.lt_or_ge b w1.heap.size with h' | h'
    · exact h'
    · simp [Array.getElem?_eq_none h'] at hbk
  have hb2 : w2.heap[b]? = some (.cells #[.pointer (some ⟨b, 0, none⟩), v] 94 (0, 0)) := by
    rw [hgrow.block b hlt (fun e => hne e.symm)]
    exact hbk
  have d0 : w2.cell? ⟨b, 0, none⟩ = some (.pointer (some ⟨b, 0, none⟩)) := by rw [Lib.cell_of_heap hb2]; rfl
  have d1 : w2.cell? ⟨b, 1, none⟩ = some v := by rw [Lib.cell_of_heap hb2]; rfl
  have f1 : w2.frozen? ⟨b, 1, none⟩ = false := Lib.frozen_of_heap hb2 1
  obtain ⟨ao, n', cap, rfl⟩ : ∃ ao n' cap, v' = .slice ao n' cap := by
    rcases hown'.2 with ⟨hv, _⟩ | ⟨g, cap, cur, fz, hv, _⟩
    · exact ⟨_, _, _, hv⟩
    · exact ⟨_, _, _, hv⟩
  go_wp2
  go_ret2
  refine ⟨rfl, ?_, ?_, (hk1.grown hgrow (Lib.ownsRowF_kind hown)).setCell ⟨b, 1, none⟩ rfl _⟩
  · exact Lib.BuilderAtF.put (T := 94) (e := 5) hB hb2 (bs' := bs ++ Lib.strCells s) (by simpa [Lib.strCells_length] using hown') (by decide)
  · exact (hb1.grown hgrow (by have := hb1.size; omega) (fun k hk => (hown.lt k hk).1)).setCell (p := ⟨b, 1, none⟩) hB _
end Go.Proofs.YtkgeeooijgcdkaaGreatDoor

namespace Go.Proofs.YtkgeeooijgcdkaaGreatDoor
open Go.RowKit Go.Shelf
attribute [local go_sem] Oper.semAt_some

/-- The first line, and the line of a tick. -/
def headP (ita : Int → ByteArray) (nm : ByteArray) (st : Int) : List UInt8 := [103, 97, 117, 103, 101, 32] ++ nm.data.toList ++ [32] ++ (ita st).data.toList ++ [10]
def lineP (ita : Int → ByteArray) (ms : List Bool) (bs : List Nat) (i : Nat) : List UInt8 := (if ms.getD i false = true then (ita (s16 (bs.getD i 0))).data.toList else [45]) ++ [10]
def textP (ita : Int → ByteArray) (nm : ByteArray) (st : Int) (ms : List Bool) (bs : List Nat) : Nat → List UInt8
  | 0 => headP ita nm st
  | k + 1 => textP ita nm st ms bs k ++ lineP ita ms bs k
/-- What the decimal text of an integer is said to be. -/
def ItaOf (ita : Int → ByteArray) (n : Int) : Prop := (ita n).size ≤ 32 ∧ ∀ W : World, Calls Tryz.prog 45 #[.int .i64 n] W fun e w' => e = .returned (.string (ita n)) ∧ Below W.heap.size W w'
theorem textP_len (ita : Int → ByteArray) (nm : ByteArray) (st : Int) (ms : List Bool) (bs : List Nat) (hn : nm.size ≤ 100000) (hs : (ita st).size ≤ 32) (h : ∀ i, i < bs.length → ms.getD i false = true → (ita (s16 (bs.getD i 0))).size ≤ 32) : ∀ k, k ≤ bs.length → (textP ita nm st ms bs k).length ≤ 200000 + 64 * k
  | 0, _ => by
    have e1 : nm.data.toList.length = nm.size := Array.length_toList
    have e2 : (ita st).data.toList.length = (ita st).size := Array.length_toList
    simp only [textP, headP, List.length_append, List.length_cons, List.length_nil, e1, e2]; omega
  | k + 1, hk => by
    have ih := textP_len ita nm st ms bs hn hs h k (by omega)
    have h1 : (lineP ita ms bs k).length ≤ 40 := by
      unfold lineP
      split
      · rename_i hm
        have := h k (by omega) hm
        have e2 : (ita (s16 (bs.getD k 0))).data.toList.length = (ita (s16 (bs.getD k 0))).size := Array.length_toList
        simp only [List.length_append, List.length_cons, List.length_nil, e2]; omega
      · simp
    simp only [textP, List.length_append]; omega

theorem ownF_bel {W W' : World} {B : Nat} {e : TypeId} {s n : Nat} {v : Value} {xs : List Value} (h : W.ownsRowF B e s v n xs) (hb : Below W.heap.size W W') : W'.ownsRowF B e s v n xs := by
  refine ⟨h.1, ?_⟩
  rcases h.2 with h2 | ⟨g, cap, cur, fz, hv, hB, hg, r⟩
  · exact .inl h2
  · exact .inr ⟨g, cap, cur, fz, hv, hB, (hb.block g (blk_lt hg)).trans hg, r⟩
theorem bldF_bel {T e : TypeId} {B b : Nat} {p : Value} {bs : List Value} {W W' : World} (h : Lib.BuilderAtF T e B b p bs W) (hb : Below W.heap.size W W') : Lib.BuilderAtF T e B b p bs W' := by
  obtain ⟨hB, v, hg, hown, hne⟩ := h
  exact ⟨hB, v, (hb.block b (blk_lt hg)).trans hg, ownF_bel hown hb, hne⟩
theorem run_cat (a b c : ByteArray) (e : c = a ++ b) (h : a.size + b.size ≤ 100000) (W : World) : (Op.stringOp .add a b).run Tryz.prog W = .ok (.string c) W := by
  subst e
  exact run_string_add_sum W a b (by omega)
theorem cat_size (a b : ByteArray) : (a ++ b).size = a.size + b.size := ByteArray.size_append
theorem bldF_is {T e : TypeId} {B b : Nat} {bs : List Value} {W : World} (h : Lib.BuilderAtF T e B b (.pointer (some ⟨b, 0, none⟩)) bs W) : Lib.IsBuilderF T e B b bs W := .inr h
theorem own_others {W W' : World} {B b : Nat} {n s : Nat} {e : TypeId} {v : Value} {xs : List Value} (h : W.ownsRow B e s v n xs) (hk : Lib.OthersKept 5 (some b) W W') (he : e ≠ 5) (hb : v.ownBlock ≠ some b) : W'.ownsRow B e s v n xs := by
  refine ⟨h.1, ?_⟩
  rcases h.2 with h2 | ⟨g, cap, cur, hv, hB, hg, r⟩
  · exact .inl h2
  · exact .inr ⟨g, cap, cur, hv, hB, hk g _ hg (by rw [hv] at hb; exact hb) (fun c fz e' => he (by cases e'; rfl)), r⟩

/-- What holds between the rounds of Print. -/
def PInv (n₀ b B5 : Nat) (w : World) (RC : Array Value) (KV : Value) (n : Nat) (ms : List Bool) (l : List UInt8) (W : World) : Prop :=
  Lib.BuilderAtF 94 5 n₀ b (.pointer (some ⟨b, 0, none⟩)) (Lib.byteCells l) W ∧ W.ownsRow B5 4 1 KV n (ms.map Value.bool) ∧ W.heap[n₀]? = some (.cells RC 30 (0, 0)) ∧ Below n₀ w W
theorem PInv.below {n₀ b B5 : Nat} {w : World} {RC : Array Value} {KV : Value} {n : Nat} {ms : List Bool} {l : List UInt8} {W W' : World} (hn : n₀ ≤ W.heap.size) (h : PInv n₀ b B5 w RC KV n ms l W) (hb : Below W.heap.size W W') : PInv n₀ b B5 w RC KV n ms l W' :=
  ⟨bldF_bel h.1 hb, own_bel h.2.1 hb, (hb.block _ (blk_lt h.2.2.1)).trans h.2.2.1, h.2.2.2.trans (hb.mono hn)⟩
theorem PInv.step {n₀ b B5 : Nat} {w : World} {RC : Array Value} {KV : Value} {n : Nat} {ms : List Bool} {l : List UInt8} {W W' : World} (hn : n₀ < b) (hb5 : b < B5) (s : ByteArray) (l' : List UInt8) (e : s.data.toList = l') (h : PInv n₀ b B5 w RC KV n ms l W)
    (h' : Lib.BuilderAtF 94 5 n₀ b (.pointer (some ⟨b, 0, none⟩)) (Lib.byteCells l ++ Lib.strCells s) W' ∧ Below n₀ W W' ∧ Lib.OthersKept 5 (some b) W W') : PInv n₀ b B5 w RC KV n ms (l ++ l') W' := by
  obtain ⟨h1, h2, h3⟩ := h'
  refine ⟨?_, own_others h.2.1 h3 (by decide) (fun e => by have := (h.2.1.lt _ e).1; omega), h3 _ _ h.2.2.1 (by intro e; injection e; omega) (fun c fz e => by cases e), h.2.2.2.trans h2⟩
  rw [Lib.byteCells_append, ← e, ← Lib.strCells_eq]; exact h1

set_option maxRecDepth 1000000 in
set_option maxHeartbeats 8000000 in
theorem print_any (ita : Int → ByteArray) (nm : ByteArray) (st : Int) (lv gv : Value) (bs : List Nat) (gs : List (Int × Int)) (w : World) (hl : Rd w w.heap.size lv bs.length (flc bs)) (hg : Rd w w.heap.size gv gs.length (spc gs)) (V : Valid nm st bs gs)
    (hst : ItaOf ita st) (hit : ∀ i, i < bs.length → (knL gs bs.length).getD i false = true → ItaOf ita (s16 (bs.getD i 0))) :
    Calls Tryz.prog 25 #[.agg #[.string nm, .int .i64 st, lv, gv]] w fun e w' => e = .returned (.tuple #[.string ⟨(textP ita nm st (knL gs bs.length) bs bs.length).toArray⟩, .int .i64 0]) ∧ Below w.heap.size w w' := by
  have HL := hd hl
  have HG := hd hg
  have HV := hd V
  have hl2 := hl
  have hg2 := hg
  obtain ⟨A1, c1, rfl, hq1, hq2, -⟩ := hl2
  obtain ⟨A2, c2, rfl, -, -, -⟩ := hg2
  have hbn : bs.length ≤ 4096 := V.most
  unfold maxLen at hq2
  have hgs : gs.length ≤ 100000 := Nat.le_trans (chkSpans_ok gs V.spans).1 (by omega)
  have HAS := hd (asc_of gs V.spans)
  have HST := hd hst
  have HIT := hd hit
  have HNM := hd (show nm.size ≤ 24 by have := V.name; unfold nameB at this; simp only [Bool.and_eq_true, decide_eq_true_eq] at this; exact this.1.2)
  clear hl hg V hst hit
  go_enter Tryz.func25, Tryz.ntmps25
  go_wp2_with fail
  obtain ⟨W0, hW0⟩ : ∃ W0, W0 = w.alloc (.cells #[.string nm, .int .i64 st, .slice A1 bs.length c1, .slice A2 gs.length c2] 30) := ⟨_, rfl⟩
  have hsz : W0.heap.size = w.heap.size + 1 := by rw [hW0]; simp
  have hb0 : Below w.heap.size w W0 := by rw [hW0]; exact (Below.refl _ w).alloc (Nat.le_refl _) _
  have HRA := hd (show W0.heap[w.heap.size]? = some (.cells #[.string nm, .int .i64 st, .slice A1 bs.length c1, .slice A2 gs.length c2] 30 (0, 0)) by rw [hW0]; exact blk_new _ _ _)
  rw [← hW0]
  clear hW0
  have HRD := hd (fun (W : World) (hB : Below w.heap.size w W) => And.intro ((HL.out.below hB (Nat.le_refl _)).mono hB.size) ((HG.out.below hB (Nat.le_refl _)).mono hB.size))
  refine (chkRec_ok nm st _ _ bs gs _ (HRD.out _ hb0).1 (HRD.out _ hb0).2 HV.out).mono ?_
  rintro e w1 ⟨rfl, hb1⟩
  have hb1s := hb1.size
  have HB1 := hd hb1
  clear hb1
  go_wp2_with fail
  obtain ⟨W3, hW3⟩ : ∃ W3, W3 = w1.alloc (.cells #[.pointer none, .slice none 0 0] 94) := ⟨_, rfl⟩
  have hs3 : W3.heap.size = w1.heap.size + 1 := by rw [hW3]; simp
  have hb13 : Below w1.heap.size w1 W3 := by rw [hW3]; exact (Below.refl _ w1).alloc (Nat.le_refl _) _
  have HBN := hd (show W3.heap[w1.heap.size]? = some (.cells #[.pointer none, .slice none 0 0] 94 (0, 0)) by rw [hW3]; exact blk_new _ _ _)
  rw [← hW3]
  have hb03 : Below W0.heap.size W0 W3 := HB1.out.trans (hb13.mono hb1s)
  have hRA3 := (hb03.block _ (show w.heap.size < W0.heap.size by omega)).trans HRA.out
  have F0 : ∀ p : Bw W3, p.out.cell? ⟨w.heap.size, 0, none⟩ = some (.string nm) := fun p => p.cell (by omega) (by simpa using blk_cell hRA3 0)
  have F1 : ∀ p : Bw W3, p.out.cell? ⟨w.heap.size, 1, none⟩ = some (.int .i64 st) := fun p => p.cell (by omega) (by simpa using blk_cell hRA3 1)
  have HB3 := hd (And.intro hb03 hRA3)
  clear hW3 hb13 hb03 hRA3
  obtain ⟨s1, hs1⟩ : ∃ s1, s1 = (⟨#[103, 97, 117, 103, 101, 32]⟩ : ByteArray) ++ nm := ⟨_, rfl⟩
  obtain ⟨s2, hs2⟩ : ∃ s2, s2 = s1 ++ (⟨#[32]⟩ : ByteArray) := ⟨_, rfl⟩
  obtain ⟨s3, hs3'⟩ : ∃ s3, s3 = s2 ++ ita st := ⟨_, rfl⟩
  obtain ⟨s4, hs4⟩ : ∃ s4, s4 = s3 ++ (⟨#[10]⟩ : ByteArray) := ⟨_, rfl⟩
  have z0 := HNM.out
  have z1 : s1.size = 6 + nm.size := by rw [hs1, cat_size]; rfl
  have z2 : s2.size = s1.size + 1 := by rw [hs2, cat_size]; rfl
  have z3 : s3.size = s2.size + (ita st).size := by rw [hs3', cat_size]
  have z4 : s4.size = s3.size + 1 := by rw [hs4, cat_size]; rfl
  have z5 := HST.out.1
  have k1 := run_cat _ _ _ hs1 (by show 6 + nm.size ≤ _; omega)
  have k2 := run_cat _ _ _ hs2 (by show s1.size + 1 ≤ _; omega)
  have k3 := run_cat _ _ _ hs3' (by omega)
  have k4 := run_cat _ _ _ hs4 (by show s3.size + 1 ≤ _; omega)
  have HS4 := hd (And.intro (show s4.data.toList = headP ita nm st by rw [hs4, hs3', hs2, hs1]; simp [headP]) (show s4.size ≤ 100 by omega))
  clear hs1 hs2 hs3' hs4 z0 z1 z2 z3 z4 z5
  refine wp_region_bw_tail 9 (by kernel_rfl) (by kernel_rfl) ?_
  simp only [List.take_succ_cons, List.take_zero, List.drop_succ_cons, List.drop_zero]
  repeat (first | go_big_quiet_step (first | (go_at_call 45; exact Bw.call _ (HST.out.2 _))))
  refine wpQuiet_nil ?_
  rintro ⟨W4, hB4⟩
  change wpList _ _ _ _ _ W4
  clear F0 F1 k1 k2 k3 k4
  have hIs : Lib.IsBuilderF 94 5 w.heap.size w1.heap.size [] W4 := .inl ⟨by omega, .slice none 0 0, (hB4.block _ (by omega)).trans HBN.out, World.ownsRowF_nil _ _ _ _, by simp [Value.ownBlock]⟩
  go_wp2_with fail
  have hb4s := hB4.size
  refine (ws_any w.heap.size w1.heap.size [] s4 W4 hIs (by have := HS4.out.2; simp; omega) (by omega)).mono ?_
  rintro e w5 ⟨rfl, h5, hb5, hk5⟩
  rw [List.nil_append, Lib.strCells_eq, HS4.out.1] at h5
  have hb04 := HB3.out.1.trans (hB4.mono HB3.out.1.size)
  have hRA4 := (hB4.block _ (show w.heap.size < W3.heap.size by omega)).trans HB3.out.2
  have hRA5 := hk5 _ _ hRA4 (by intro e; injection e; omega) (fun c fz e => by cases e)
  have hbw5 : Below w.heap.size w w5 := (hb0.trans (hb04.mono hb0.size)).trans hb5
  have y0 := blk_cell hRA5 0
  have y1 := blk_cell hRA5 1
  have y2 := blk_cell hRA5 2
  have y3 := blk_cell hRA5 3
  simp at y0 y1 y2 y3
  have H5 := hd (And.intro h5 (And.intro hRA5 hbw5))
  have hbs : w1.heap.size < w5.heap.size := h5.lt
  clear h5 hIs hRA4 hRA5 hbw5 hk5 hb5 hb04 hB4
  go_wp2_with fail
  refine (known_any nm st _ _ bs.length (flc bs) gs _ (HRD.out _ H5.out.2.2).1 (HRD.out _ H5.out.2.2).2 HAS.out hgs (by omega)).mono ?_
  rintro e w6 ⟨kv, rfl, hok, hb6⟩
  rw [knL_len] at hok
  obtain ⟨Ak, ck, hkv, -⟩ := own_form hok
  subst hkv
  have HI := hd (show PInv w.heap.size w1.heap.size w5.heap.size w #[.string nm, .int .i64 st, .slice A1 bs.length c1, .slice A2 gs.length c2] (.slice Ak bs.length ck) bs.length (knL gs bs.length) (textP ita nm st (knL gs bs.length) bs 0) w6 from
    ⟨bldF_bel H5.out.1 hb6, hok, (hb6.block _ (by omega)).trans H5.out.2.1, H5.out.2.2.trans (hb6.mono (by omega))⟩)
  clear hok hb6 H5 y0 y1 y2 y3
  have HTL := hd (textP_len ita nm st (knL gs bs.length) bs (by have := HNM.out; omega) HST.out.1 (fun i hi hm => (HIT.out i hi hm).1))
  have hwb : w.heap.size < w1.heap.size := by omega
  go_wp2
  go_loopw [27] (fun i wr => ∃ k : Nat, k ≤ bs.length ∧ i = .int .i64 k ∧ Hid (PInv w.heap.size w1.heap.size w5.heap.size w #[.string nm, .int .i64 st, .slice A1 bs.length c1, .slice A2 gs.length c2] (.slice Ak bs.length ck) bs.length (knL gs bs.length) (textP ita nm st (knL gs bs.length) bs k) wr)) (fun i _ => bs.length - (intOf i).toNat)
  case atStart => exact ⟨0, Nat.zero_le _, rfl, HI⟩
  case round =>
    obtain ⟨k, hk, rfl, HR⟩ := hrel
    have hTL := HTL.out k hk
    by_cases hlt : k < bs.length
    · obtain ⟨hbd, hok, hrc, hbw⟩ := HR.out
      have hkl : k < (knL gs bs.length).length := by rw [knL_len]; exact hlt
      obtain ⟨g, hAk⟩ : ∃ g, Ak = some ⟨g, 0, none⟩ := by
        obtain ⟨Ax, cx, ex, hx⟩ := own_form hok
        cases ex
        exact hx (by omega)
      subst hAk
      have hcell : wr.cell? ⟨g, k, none⟩ = some (.bool ((knL gs bs.length).getD k false)) := by
        obtain ⟨A', c', e', h1, h2, h3⟩ := rd_of_own hok
        cases e'
        obtain ⟨b, off, eb, hb1, hb2⟩ := h3 (by omega)
        cases eb
        have := hb2 k (by simpa using hkl)
        simpa [hkl] using this
      have y2 := blk_cell hrc 2
      simp at y2
      have hrd := (HRD.out _ hbw).1
      have hwr := hbw.size
      clear hbd hok hrc hbw
      cases hm : (knL gs bs.length).getD k false
      · rw [hm] at hcell
        have HM := hd hm
        clear hm hrd y2
        obtain ⟨s5, hs5⟩ : ∃ s5, s5 = (⟨#[45]⟩ : ByteArray) ++ (⟨#[10]⟩ : ByteArray) := ⟨_, rfl⟩
        have k5 := run_cat _ _ _ hs5 (by decide)
        have HS5 := hd (show s5.data.toList = lineP ita (knL gs bs.length) bs k by rw [hs5]; unfold lineP; rw [HM.out]; simp)
        have hz5 : s5.size = 2 := by rw [hs5]; rfl
        clear hs5
        go_wp2_with fail
        refine (ws_any w.heap.size w1.heap.size _ s5 wr (bldF_is HR.out.1) (by rw [Lib.byteCells_length]; omega) hwr).mono ?_
        rintro e w7 ⟨rfl, h7⟩
        have HI7 := hd (PInv.step hwb hbs s5 _ HS5.out HR.out h7)
        clear h7
        go_wp2
        go_roundw
        case rel => exact ⟨k + 1, by omega, by go_num, HI7⟩
        case measure => simp [intOf]; omega
      · rw [hm] at hcell
        obtain ⟨b1, off1, hA1, hb1', hc1⟩ : ∃ b off : Nat, A1 = some ⟨b, off, none⟩ ∧ b < wr.heap.size ∧ wr.cell? ⟨b, off + k, none⟩ = some (.float .f32 (bs.getD k 0)) := by
          obtain ⟨A', c', e', h1, h2, h3⟩ := hrd
          cases e'
          obtain ⟨b, off, eb, hb1, hb2⟩ := h3 (by omega)
          refine ⟨b, off, eb, hb1, ?_⟩
          have := hb2 k (by simpa [flc] using hlt)
          simpa [flc, hlt] using this
        subst hA1
        have hlo := HV.out.lev k hlt
        have hik := HIT.out k hlt hm
        obtain ⟨lev, hlev⟩ : ∃ v, v = bs.getD k 0 := ⟨_, rfl⟩
        rw [← hlev] at hlo hc1 hik
        obtain ⟨hsx, hs1, hs2⟩ := sixt_of hlo
        have HSX := hd hsx
        have HIK := hd hik
        have HM := hd hm
        have HLV := hd hlev
        clear hm hrd hsx hlo hik hlev
        go_wp2_with fail
        refine (sixt_any _ _ _ HSX.out).mono ?_
        rintro e w' ⟨rfl, rfl⟩
        go_wp2_with fail
        refine (HIK.out.2 _).mono ?_
        rintro e w7 ⟨rfl, hb7⟩
        have HR7 := hd (HR.out.below hwr hb7)
        have hwr7 : w.heap.size ≤ w7.heap.size := Nat.le_trans hwr hb7.size
        have hi5 := HIK.out.1
        obtain ⟨s5, hs5⟩ : ∃ s5, s5 = ita (s16 lev) ++ (⟨#[10]⟩ : ByteArray) := ⟨_, rfl⟩
        have k5 := run_cat _ _ _ hs5 (by show (ita _).size + 1 ≤ _; omega)
        have HS5 := hd (show s5.data.toList = lineP ita (knL gs bs.length) bs k by rw [hs5]; unfold lineP; rw [HM.out, ← HLV.out]; simp)
        have hz5 : s5.size = (ita (s16 lev)).size + 1 := by rw [hs5, cat_size]; rfl
        clear hs5 hb7 hc1 hcell y2
        go_wp2_with fail
        refine (ws_any w.heap.size w1.heap.size _ s5 w7 (bldF_is HR7.out.1) (by rw [Lib.byteCells_length]; omega) hwr7).mono ?_
        rintro e w8 ⟨rfl, h8⟩
        have HI8 := hd (PInv.step hwb hbs s5 _ HS5.out HR7.out h8)
        clear h8
        go_wp2
        go_roundw
        case rel => exact ⟨k + 1, by omega, by go_num, HI8⟩
        case measure => simp [intOf]; omega
    · obtain rfl : k = bs.length := by omega
      go_wp2_with fail
      refine (Tryz.Builder_String_any_k w.heap.size w1.heap.size _ wr (bldF_is HR.out.1) HR.out.2.2.2.size).mono ?_
      rintro e w9 ⟨rfl, h9, hb9, hk9⟩
      have HB9 := hd (HR.out.2.2.2.trans hb9)
      clear h9 hb9 hk9
      go_wp2
      go_ret2
      exact ⟨rfl, HB9.out⟩
end Go.Proofs.YtkgeeooijgcdkaaGreatDoor

namespace Go.Proofs.YtkgeeooijgcdkaaGreatDoor
open Go.RowKit Go.Shelf
attribute [local go_sem] Oper.semAt_some

/-- The bytes of a word, the highest one first. -/
def four (x : Nat) : List Value := [.int .u8 ((x : Int) / 16777216 % 256), .int .u8 ((x : Int) / 65536 % 256), .int .u8 ((x : Int) / 256 % 256), .int .u8 ((x : Int) % 256)]
def fours (ws : List Nat) : List Value := (ws.map four).flatten
theorem fours_len (ws : List Nat) : (fours ws).length = 4 * ws.length := by
  induction ws with
  | nil => rfl
  | cons x l ih => simp only [fours, List.map_cons, List.flatten_cons, List.length_append, List.length_cons] at ih ⊢; rw [ih]; simp [four]; omega
theorem fours_snoc (ws : List Nat) (k : Nat) (h : k < ws.length) : fours (ws.take (k + 1)) = fours (ws.take k) ++ four (ws.getD k 0) := by
  have e : ws.getD k 0 = ws[k] := by simp [h]
  unfold fours
  rw [List.take_add_one, List.getElem?_eq_getElem h, e]
  simp only [Option.toList_some, List.map_append, List.map_cons, List.map_nil, List.flatten_append, List.flatten_cons, List.flatten_nil, List.append_nil]

theorem cell_four_new (W : World) (x y z u : Value) (t : TypeId) : ∀ j v, [x, y, z, u][j]? = some v → (W.alloc (.cells #[x, y, z, u] t)).cell? ((⟨W.heap.size, 0, none⟩ : Addr).add j) = some v := by
  intro j v hj
  match j, hj with
  | 0, hj => exact (blk_cell (blk_new W #[x, y, z, u] t) 0).trans hj
  | 1, hj => exact (blk_cell (blk_new W #[x, y, z, u] t) 1).trans hj
  | 2, hj => exact (blk_cell (blk_new W #[x, y, z, u] t) 2).trans hj
  | 3, hj => exact (blk_cell (blk_new W #[x, y, z, u] t) 3).trans hj
end Go.Proofs.YtkgeeooijgcdkaaGreatDoor

namespace Go.Proofs.YtkgeeooijgcdkaaGreatDoor
open Go.RowKit Go.Shelf
attribute [local go_sem] Oper.semAt_some

/-- What holds between the steps of Encode. -/
structure EI (n₀ B : Nat) (w1 : World) (RC : Array Value) (xs : List Value) (v : Value) (W : World) : Prop where
  own : W.ownsRow B 5 1 v xs.length xs
  rcd : W.heap[n₀]? = some (.cells RC 30 (0, 0))
  bel : Below B w1 W
theorem own_new4 (W : World) (B : Nat) (hB : B ≤ W.heap.size) (a b c d : Value) (t : TypeId) : (W.alloc (.cells #[a, b, c, d] t)).ownsRow B t 1 (.slice (some ⟨W.heap.size, 0, none⟩) 4 4) 4 [a, b, c, d] :=
  ⟨rfl, .inr ⟨_, _, _, rfl, hB, blk_new W _ t, Nat.le_refl _, by decide, rfl, rfl⟩⟩
/-- The bytes of a stream: its head, its gaps, its levels. -/
def encH (nm : ByteArray) (st : Int) (n m : Nat) : List Value := [.int .u8 84, .int .u8 73, .int .u8 68, .int .u8 69] ++ [.int .u8 (nm.size : Int)] ++ Lib.strCells nm ++ fours [st.toNat, n, m]
def encG (gs : List (Int × Int)) : List Nat := (gs.map (fun g => [g.1.toNat, g.2.toNat])).flatten
theorem fours_app (a b : List Nat) : fours (a ++ b) = fours a ++ fours b := by simp [fours]
theorem encG_snoc (gs : List (Int × Int)) (k f t : Nat) (h : k < gs.length) (e : gs.getD k (0, 0) = ((f : Int), (t : Int))) : encG (gs.take (k + 1)) = encG (gs.take k) ++ [f, t] := by
  have e' : gs[k] = ((f : Int), (t : Int)) := by rw [← e]; simp [h]
  unfold encG
  rw [List.take_add_one, List.getElem?_eq_getElem h, e']
  simp only [Option.toList_some, List.map_append, List.map_cons, List.map_nil, List.flatten_append, List.flatten_cons, List.flatten_nil, List.append_nil, Int.toNat_natCast]
theorem encG_len (gs : List (Int × Int)) : (encG gs).length = 2 * gs.length := by
  induction gs with
  | nil => rfl
  | cons g l ih => simp only [encG, List.map_cons, List.flatten_cons, List.length_append, List.length_cons, List.length_nil] at ih ⊢; omega
def encL (bs : List Nat) : List Nat := bs.map (fun b => if b = 2147483648 then 0 else b)
theorem encL_snoc (bs : List Nat) (k : Nat) (h : k < bs.length) {y : Nat} (e : (if bs.getD k 0 = 2147483648 then 0 else bs.getD k 0) = y) : encL (bs.take (k + 1)) = encL (bs.take k) ++ [y] := by
  have e' : bs.getD k 0 = bs[k] := by simp [h]
  rw [e'] at e
  unfold encL
  rw [List.take_add_one, List.getElem?_eq_getElem h]
  simp only [Option.toList_some, List.map_append, List.map_cons, List.map_nil, e]
def encV (nm : ByteArray) (st : Int) (bs : List Nat) (gs : List (Int × Int)) : List Value := encH nm st bs.length gs.length ++ fours (encG gs) ++ fours (encL bs)

end Go.Proofs.YtkgeeooijgcdkaaGreatDoor
