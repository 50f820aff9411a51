/-
  Contracts of the library's string builder at this program: the copy check, and a string written behind what is there. No condition but room.
  Contract of gauge.Print at a valid record. Conditions: the record is valid; what strconv.Itoa gives at the integers that are printed.
  Contract of gauge.putWords. Condition: room.
  Contract of gauge.Encode at a valid record.
-/
import Derived.Test.YtkgkpcmokmhakaaGreatDoorProg
import Derived.Test.YtkgkpcmokmhakaaGreatDoorShelfB
import Derived.Test.YtkgkpcmokmhakaaGreatDoorMA
import Derived.Test.YtkgkpcmokmhakaaGreatDoorMK
import Derived.Test.YtkgkpcmokmhakaaGreatDoorV9
import Derived.Shelf.Strings.BuilderK
import Derived.Maps.AppendAt
import Derived.Lib.SlBytesConst
import Derived.ArgAppend

namespace Go.Proofs.YtkgkpcmokmhakaaGreatDoor
open Go.RowKit Go.Shelf
attribute [local go_sem] Oper.semAt_some

theorem bldInfo : (Tryz.prog.info? 86).map (·.size) = some 2 := by kernel_rfl
theorem bldLies : liesAt Tryz.prog Tryz.prog.depth 86 (2 / Tryz.prog.cellsOf 86) 0 86 1 = true := by kernel_rfl
theorem byteInfo : (Tryz.prog.info? 5).map (fun i => (i.zero, i.size, i.bytes)) = some (some (.int .u8 0), 1, 1) := by kernel_rfl

set_option maxHeartbeats 1000000 in
set_option maxRecDepth 100000 in
theorem cc_used (b : Nat) (w : World) (h0 : w.cell? ⟨b, 0, none⟩ = some (.pointer (some ⟨b, 0, none⟩))) :
    Calls Tryz.prog 75 #[.pointer (some ⟨b, 0, none⟩)] w fun e w' => e = .returned (.tuple #[]) ∧ w' = w := by
  obtain ⟨j, hj, _⟩ := Option.map_eq_some_iff.1 bldInfo
  go_enter Tryz.func75, Tryz.ntmps75
  go_wp2
  rw [Lib.run_neq_ptr_same w _ Tryz.underlying84 hj]
  go_wp2
  go_end0
  exact ⟨rfl, rfl⟩

set_option maxHeartbeats 1000000 in
set_option maxRecDepth 100000 in
theorem cc_fresh (b : Nat) (w : World) (h0 : w.cell? ⟨b, 0, none⟩ = some (.pointer none)) (hsh : w.shape? b = some (86, 2)) (hfz : w.frozen? ⟨b, 0, none⟩ = false) :
    Calls Tryz.prog 75 #[.pointer (some ⟨b, 0, none⟩)] w fun e w' => e = .returned (.tuple #[]) ∧ w' = w.setCell ⟨b, 0, none⟩ (.pointer (some ⟨b, 0, none⟩)) := by
  obtain ⟨j, hj, hjs⟩ := Option.map_eq_some_iff.1 bldInfo
  go_enter Tryz.func75, Tryz.ntmps75
  go_wp2
  rw [Lib.run_to_unsafe w ⟨b, 0, none⟩ Tryz.underlying84 Tryz.underlying167 hj (by rw [hjs]; decide) hsh (Nat.zero_lt_succ 1)]
  simp only [Result.andThen]
  rw [Oper.upon_value]
  go_wp2
  rw [run_callFunc_extern Tryz.func104 (by kernel_rfl) (by kernel_rfl) (by kernel_rfl) (e := Extern.AbiNoEscape.same) (by kernel_rfl)]
  rw [Lib.run_noEscape]
  simp only [Result.andThen]
  rw [Oper.upon_value]
  go_wp2
  rw [Lib.run_from_unsafe w ⟨b, 0, none⟩ Tryz.underlying167 Tryz.underlying84 hj hsh bldLies]
  simp only [Result.andThen]
  rw [Oper.upon_value]
  go_wp2
  go_end0
  exact ⟨rfl, rfl⟩

theorem cc_any (B b : Nat) (bs : List Value) (w : World) (h : Lib.IsBuilderF 86 5 B b bs w) :
    Calls Tryz.prog 75 #[.pointer (some ⟨b, 0, none⟩)] w fun e w' => e = .returned (.tuple #[]) ∧ (Lib.BuilderAtF 86 5 B b (.pointer (some ⟨b, 0, none⟩)) bs w' ∧ Below B w w' ∧ Lib.OthersKept 5 (some b) w w') := by
  rcases h with h | h
  · refine (cc_fresh b w h.cell0 h.shape h.frozen0).mono ?_
    rintro e w' ⟨rfl, rfl⟩
    exact ⟨rfl, h.used _, (Below.refl B w).setCell (p := ⟨b, 0, none⟩) h.1 _, (Lib.OthersKept.refl _ _ w).setCell ⟨b, 0, none⟩ rfl _⟩
  · refine (cc_used b w h.cell0).mono ?_
    rintro e w' ⟨rfl, rfl⟩
    exact ⟨rfl, h, Below.refl B _, Lib.OthersKept.refl _ _ _⟩

set_option maxHeartbeats 2000000 in
set_option maxRecDepth 100000 in
theorem ws_any (B b : Nat) (bs : List Value) (s : ByteArray) (w : World) (h : Lib.IsBuilderF 86 5 B b bs w) (hlen : bs.length + s.size ≤ 140737488355328) (hBw : B ≤ w.heap.size) :
    Calls Tryz.prog 34 #[.pointer (some ⟨b, 0, none⟩), .string s] w fun e w' => e = .returned (.tuple #[.int .i64 s.size, .nilIface]) ∧ (Lib.BuilderAtF 86 5 B b (.pointer (some ⟨b, 0, none⟩)) (bs ++ Lib.strCells s) w' ∧ Below B w w' ∧ Lib.OthersKept 5 (some b) w w') := by
  obtain ⟨i0, hi, hz0, hz1, hz2⟩ := info_parts byteInfo
  go_enter Tryz.func34, Tryz.ntmps34
  go_wp2_with (go_at_call 75; refine (cc_any B b bs _ h).mono ?_)
  rintro e w1 ⟨rfl, h1, hb1, hk1⟩
  obtain ⟨hB, v, hbk, hown, hne⟩ := h1
  have c0 : w1.cell? ⟨b, 0, none⟩ = some (.pointer (some ⟨b, 0, none⟩)) := by rw [Lib.cell_of_heap hbk]; rfl
  have c1 : w1.cell? ⟨b, 1, none⟩ = some v := by rw [Lib.cell_of_heap hbk]; rfl
  go_wp2_with (at_builtin; refine Lib.wpList_append_own_stringF _ rfl _ _ 55 9 rfl B 5 i0 Tryz.underlying55 Tryz.underlying9 hi hz0 hz1 hz2 _ _ _ rfl hown s rfl ?c3 ?c4 ?c5 ?_)
  case c3 => unfold maxLen; omega
  case c4 => omega
  case c5 => have := hb1.size; omega
  intro v' w2 hown' hgrow _
  have hlt : b < w1.heap.size := by
    rcases Nat.lt_or_ge b w1.heap.size with h' | h'
    · exact h'
    · simp [Array.getElem?_eq_none h'] at hbk
  have hb2 : w2.heap[b]? = some (.cells #[.pointer (some ⟨b, 0, none⟩), v] 86 (0, 0)) := by
    rw [hgrow.block b hlt (fun e => hne e.symm)]
    exact hbk
  have d0 : w2.cell? ⟨b, 0, none⟩ = some (.pointer (some ⟨b, 0, none⟩)) := by rw [Lib.cell_of_heap hb2]; rfl
  have d1 : w2.cell? ⟨b, 1, none⟩ = some v := by rw [Lib.cell_of_heap hb2]; rfl
  have f1 : w2.frozen? ⟨b, 1, none⟩ = false := Lib.frozen_of_heap hb2 1
  obtain ⟨ao, n', cap, rfl⟩ : ∃ ao n' cap, v' = .slice ao n' cap := by
    rcases hown'.2 with ⟨hv, _⟩ | ⟨g, cap, cur, fz, hv, _⟩
    · exact ⟨_, _, _, hv⟩
    · exact ⟨_, _, _, hv⟩
  go_wp2
  go_ret2
  refine ⟨rfl, ?_, ?_, (hk1.grown hgrow (Lib.ownsRowF_kind hown)).setCell ⟨b, 1, none⟩ rfl _⟩
  · exact Lib.BuilderAtF.put (T := 86) (e := 5) hB hb2 (bs' := bs ++ Lib.strCells s) (by simpa [Lib.strCells_length] using hown') (by decide)
  · exact (hb1.grown hgrow (by have := hb1.size; omega) (fun k hk => (hown.lt k hk).1)).setCell (p := ⟨b, 1, none⟩) hB _
end Go.Proofs.YtkgkpcmokmhakaaGreatDoor

namespace Go.Proofs.YtkgkpcmokmhakaaGreatDoor
open Go.RowKit Go.Shelf
attribute [local go_sem] Oper.semAt_some

/-- The first line, and the line of a tick. -/
def headP (ita : Int → ByteArray) (nm : ByteArray) (st : Int) : List UInt8 := [103, 97, 117, 103, 101, 32] ++ nm.data.toList ++ [32] ++ (ita st).data.toList ++ [10]
def lineP (ita : Int → ByteArray) (ms : List Bool) (bs : List Nat) (i : Nat) : List UInt8 := (if ms.getD i false = true then (ita (s16 (bs.getD i 0))).data.toList else [45]) ++ [10]
def textP (ita : Int → ByteArray) (nm : ByteArray) (st : Int) (ms : List Bool) (bs : List Nat) : Nat → List UInt8
  | 0 => headP ita nm st
  | k + 1 => textP ita nm st ms bs k ++ lineP ita ms bs k
/-- What the decimal text of an integer is said to be. -/
def ItaOf (ita : Int → ByteArray) (n : Int) : Prop := (ita n).size ≤ 32 ∧ ∀ W : World, Calls Tryz.prog 35 #[.int .i64 n] W fun e w' => e = .returned (.string (ita n)) ∧ Below W.heap.size W w'
/-- The same from a world on. -/
def ItaAt (w : World) (ita : Int → ByteArray) (n : Int) : Prop := (ita n).size ≤ 32 ∧ ∀ W : World, Below w.heap.size w W → Calls Tryz.prog 35 #[.int .i64 n] W fun e w' => e = .returned (.string (ita n)) ∧ Below W.heap.size W w'
theorem textP_len (ita : Int → ByteArray) (nm : ByteArray) (st : Int) (ms : List Bool) (bs : List Nat) (hn : nm.size ≤ 100000) (hs : (ita st).size ≤ 32) (h : ∀ i, i < bs.length → ms.getD i false = true → (ita (s16 (bs.getD i 0))).size ≤ 32) : ∀ k, k ≤ bs.length → (textP ita nm st ms bs k).length ≤ 200000 + 64 * k
  | 0, _ => by
    have e1 : nm.data.toList.length = nm.size := Array.length_toList
    have e2 : (ita st).data.toList.length = (ita st).size := Array.length_toList
    simp only [textP, headP, List.length_append, List.length_cons, List.length_nil, e1, e2]; omega
  | k + 1, hk => by
    have ih := textP_len ita nm st ms bs hn hs h k (by omega)
    have h1 : (lineP ita ms bs k).length ≤ 40 := by
      unfold lineP
      split
      · rename_i hm
        have := h k (by omega) hm
        have e2 : (ita (s16 (bs.getD k 0))).data.toList.length = (ita (s16 (bs.getD k 0))).size := Array.length_toList
        simp only [List.length_append, List.length_cons, List.length_nil, e2]; omega
      · simp
    simp only [textP, List.length_append]; omega

theorem ownF_bel {W W' : World} {B : Nat} {e : TypeId} {s n : Nat} {v : Value} {xs : List Value} (h : W.ownsRowF B e s v n xs) (hb : Below W.heap.size W W') : W'.ownsRowF B e s v n xs := by
  refine ⟨h.1, ?_⟩
  rcases h.2 with h2 | ⟨g, cap, cur, fz, hv, hB, hg, r⟩
  · exact .inl h2
  · exact .inr ⟨g, cap, cur, fz, hv, hB, (hb.block g (blk_lt hg)).trans hg, r⟩
theorem bldF_bel {T e : TypeId} {B b : Nat} {p : Value} {bs : List Value} {W W' : World} (h : Lib.BuilderAtF T e B b p bs W) (hb : Below W.heap.size W W') : Lib.BuilderAtF T e B b p bs W' := by
  obtain ⟨hB, v, hg, hown, hne⟩ := h
  exact ⟨hB, v, (hb.block b (blk_lt hg)).trans hg, ownF_bel hown hb, hne⟩
theorem run_cat (a b c : ByteArray) (e : c = a ++ b) (h : a.size + b.size ≤ 100000) (W : World) : (Op.stringOp .add a b).run Tryz.prog W = .ok (.string c) W := by
  subst e
  exact run_string_add_sum W a b (by omega)
theorem cat_size (a b : ByteArray) : (a ++ b).size = a.size + b.size := ByteArray.size_append
theorem bldF_is {T e : TypeId} {B b : Nat} {bs : List Value} {W : World} (h : Lib.BuilderAtF T e B b (.pointer (some ⟨b, 0, none⟩)) bs W) : Lib.IsBuilderF T e B b bs W := .inr h
theorem own_others {W W' : World} {B b : Nat} {n s : Nat} {e : TypeId} {v : Value} {xs : List Value} (h : W.ownsRow B e s v n xs) (hk : Lib.OthersKept 5 (some b) W W') (he : e ≠ 5) (hb : v.ownBlock ≠ some b) : W'.ownsRow B e s v n xs := by
  refine ⟨h.1, ?_⟩
  rcases h.2 with h2 | ⟨g, cap, cur, hv, hB, hg, r⟩
  · exact .inl h2
  · exact .inr ⟨g, cap, cur, hv, hB, hk g _ hg (by rw [hv] at hb; exact hb) (fun c fz e' => he (by cases e'; rfl)), r⟩

/-- What holds between the rounds of Print. -/
def PInv (n₀ b B5 : Nat) (w : World) (RC : Array Value) (KV : Value) (n : Nat) (ms : List Bool) (l : List UInt8) (W : World) : Prop :=
  Lib.BuilderAtF 86 5 n₀ b (.pointer (some ⟨b, 0, none⟩)) (Lib.byteCells l) W ∧ W.ownsRow B5 4 1 KV n (ms.map Value.bool) ∧ W.heap[n₀]? = some (.cells RC 35 (0, 0)) ∧ Below n₀ w W
theorem PInv.below {n₀ b B5 : Nat} {w : World} {RC : Array Value} {KV : Value} {n : Nat} {ms : List Bool} {l : List UInt8} {W W' : World} (hn : n₀ ≤ W.heap.size) (h : PInv n₀ b B5 w RC KV n ms l W) (hb : Below W.heap.size W W') : PInv n₀ b B5 w RC KV n ms l W' :=
  ⟨bldF_bel h.1 hb, own_bel h.2.1 hb, (hb.block _ (blk_lt h.2.2.1)).trans h.2.2.1, h.2.2.2.trans (hb.mono hn)⟩
theorem PInv.step {n₀ b B5 : Nat} {w : World} {RC : Array Value} {KV : Value} {n : Nat} {ms : List Bool} {l : List UInt8} {W W' : World} (hn : n₀ < b) (hb5 : b < B5) (s : ByteArray) (l' : List UInt8) (e : s.data.toList = l') (h : PInv n₀ b B5 w RC KV n ms l W)
    (h' : Lib.BuilderAtF 86 5 n₀ b (.pointer (some ⟨b, 0, none⟩)) (Lib.byteCells l ++ Lib.strCells s) W' ∧ Below n₀ W W' ∧ Lib.OthersKept 5 (some b) W W') : PInv n₀ b B5 w RC KV n ms (l ++ l') W' := by
  obtain ⟨h1, h2, h3⟩ := h'
  refine ⟨?_, own_others h.2.1 h3 (by decide) (fun e => by have := (h.2.1.lt _ e).1; omega), h3 _ _ h.2.2.1 (by intro e; injection e; omega) (fun c fz e => by cases e), h.2.2.2.trans h2⟩
  rw [Lib.byteCells_append, ← e, ← Lib.strCells_eq]; exact h1

set_option maxRecDepth 1000000 in
set_option maxHeartbeats 8000000 in
theorem print_at (ita : Int → ByteArray) (nm : ByteArray) (st : Int) (lv gv : Value) (bs : List Nat) (gs : List (Int × Int)) (w : World) (hl : Rd w w.heap.size lv bs.length (flc bs)) (hg : Rd w w.heap.size gv gs.length (spc gs)) (V : Valid nm st bs gs)
    (hst : ItaAt w ita st) (hit : ∀ i, i < bs.length → (knL gs bs.length).getD i false = true → ItaAt w ita (s16 (bs.getD i 0))) :
    Calls Tryz.prog 14 #[.agg #[.string nm, .int .i64 st, lv, gv]] w fun e w' => e = .returned (.tuple #[.string ⟨(textP ita nm st (knL gs bs.length) bs bs.length).toArray⟩, .int .i64 0]) ∧ Below w.heap.size w w' := by
  have HL := hd hl
  have HG := hd hg
  have HV := hd V
  have hl2 := hl
  have hg2 := hg
  obtain ⟨A1, c1, rfl, hq1, hq2, -⟩ := hl2
  obtain ⟨A2, c2, rfl, -, -, -⟩ := hg2
  have hbn : bs.length ≤ 4096 := V.most
  unfold maxLen at hq2
  have hgs : gs.length ≤ 100000 := Nat.le_trans (chkSpans_ok gs V.spans).1 (by omega)
  have HAS := hd (asc_of gs V.spans)
  have HST := hd hst
  have HIT := hd hit
  have HNM := hd (show nm.size ≤ 24 by have := V.name; unfold nameB at this; simp only [Bool.and_eq_true, decide_eq_true_eq] at this; exact this.1.2)
  clear hl hg V hst hit
  go_enter Tryz.func14, Tryz.ntmps14
  go_wp2_with fail
  obtain ⟨W0, hW0⟩ : ∃ W0, W0 = w.alloc (.cells #[.string nm, .int .i64 st, .slice A1 bs.length c1, .slice A2 gs.length c2] 35) := ⟨_, rfl⟩
  have hsz : W0.heap.size = w.heap.size + 1 := by rw [hW0]; simp
  have hb0 : Below w.heap.size w W0 := by rw [hW0]; exact (Below.refl _ w).alloc (Nat.le_refl _) _
  have HRA := hd (show W0.heap[w.heap.size]? = some (.cells #[.string nm, .int .i64 st, .slice A1 bs.length c1, .slice A2 gs.length c2] 35 (0, 0)) by rw [hW0]; exact blk_new _ _ _)
  rw [← hW0]
  clear hW0
  have HRD := hd (fun (W : World) (hB : Below w.heap.size w W) => And.intro ((HL.out.below hB (Nat.le_refl _)).mono hB.size) ((HG.out.below hB (Nat.le_refl _)).mono hB.size))
  refine (chkRec_ok nm st _ _ bs gs _ (HRD.out _ hb0).1 (HRD.out _ hb0).2 HV.out).mono ?_
  rintro e w1 ⟨rfl, hb1⟩
  have hb1s := hb1.size
  have HB1 := hd hb1
  clear hb1
  go_wp2_with fail
  obtain ⟨W3, hW3⟩ : ∃ W3, W3 = w1.alloc (.cells #[.pointer none, .slice none 0 0] 86) := ⟨_, rfl⟩
  have hs3 : W3.heap.size = w1.heap.size + 1 := by rw [hW3]; simp
  have hb13 : Below w1.heap.size w1 W3 := by rw [hW3]; exact (Below.refl _ w1).alloc (Nat.le_refl _) _
  have HBN := hd (show W3.heap[w1.heap.size]? = some (.cells #[.pointer none, .slice none 0 0] 86 (0, 0)) by rw [hW3]; exact blk_new _ _ _)
  rw [← hW3]
  have hb03 : Below W0.heap.size W0 W3 := HB1.out.trans (hb13.mono hb1s)
  have hRA3 := (hb03.block _ (show w.heap.size < W0.heap.size by omega)).trans HRA.out
  have F0 : ∀ p : Bw W3, p.out.cell? ⟨w.heap.size, 0, none⟩ = some (.string nm) := fun p => p.cell (by omega) (by simpa using blk_cell hRA3 0)
  have F1 : ∀ p : Bw W3, p.out.cell? ⟨w.heap.size, 1, none⟩ = some (.int .i64 st) := fun p => p.cell (by omega) (by simpa using blk_cell hRA3 1)
  have HB3 := hd (And.intro hb03 hRA3)
  have HSP := hd (fun p : Bw W3 => HST.out.2 p.out ((hb0.trans (hb03.mono hb0.size)).trans (p.below.mono (Nat.le_trans hb0.size hb03.size))))
  clear hW3 hb13 hb03 hRA3
  obtain ⟨s1, hs1⟩ : ∃ s1, s1 = (⟨#[103, 97, 117, 103, 101, 32]⟩ : ByteArray) ++ nm := ⟨_, rfl⟩
  obtain ⟨s2, hs2⟩ : ∃ s2, s2 = s1 ++ (⟨#[32]⟩ : ByteArray) := ⟨_, rfl⟩
  obtain ⟨s3, hs3'⟩ : ∃ s3, s3 = s2 ++ ita st := ⟨_, rfl⟩
  obtain ⟨s4, hs4⟩ : ∃ s4, s4 = s3 ++ (⟨#[10]⟩ : ByteArray) := ⟨_, rfl⟩
  have z0 := HNM.out
  have z1 : s1.size = 6 + nm.size := by rw [hs1, cat_size]; rfl
  have z2 : s2.size = s1.size + 1 := by rw [hs2, cat_size]; rfl
  have z3 : s3.size = s2.size + (ita st).size := by rw [hs3', cat_size]
  have z4 : s4.size = s3.size + 1 := by rw [hs4, cat_size]; rfl
  have z5 := HST.out.1
  have k1 := run_cat _ _ _ hs1 (by show 6 + nm.size ≤ _; omega)
  have k2 := run_cat _ _ _ hs2 (by show s1.size + 1 ≤ _; omega)
  have k3 := run_cat _ _ _ hs3' (by omega)
  have k4 := run_cat _ _ _ hs4 (by show s3.size + 1 ≤ _; omega)
  have HS4 := hd (And.intro (show s4.data.toList = headP ita nm st by rw [hs4, hs3', hs2, hs1]; simp [headP]) (show s4.size ≤ 100 by omega))
  clear hs1 hs2 hs3' hs4 z0 z1 z2 z3 z4 z5
  refine wp_region_bw_tail 9 (by kernel_rfl) (by kernel_rfl) ?_
  simp only [List.take_succ_cons, List.take_zero, List.drop_succ_cons, List.drop_zero]
  repeat (first | go_big_quiet_step (first | (go_at_call 35; exact Bw.call _ (HSP.out _))))
  refine wpQuiet_nil ?_
  rintro ⟨W4, hB4⟩
  change wpList _ _ _ _ _ W4
  clear F0 F1 k1 k2 k3 k4
  have hIs : Lib.IsBuilderF 86 5 w.heap.size w1.heap.size [] W4 := .inl ⟨by omega, .slice none 0 0, (hB4.block _ (by omega)).trans HBN.out, World.ownsRowF_nil _ _ _ _, by simp [Value.ownBlock]⟩
  go_wp2_with fail
  have hb4s := hB4.size
  refine (ws_any w.heap.size w1.heap.size [] s4 W4 hIs (by have := HS4.out.2; simp; omega) (by omega)).mono ?_
  rintro e w5 ⟨rfl, h5, hb5, hk5⟩
  rw [List.nil_append, Lib.strCells_eq, HS4.out.1] at h5
  have hb04 := HB3.out.1.trans (hB4.mono HB3.out.1.size)
  have hRA4 := (hB4.block _ (show w.heap.size < W3.heap.size by omega)).trans HB3.out.2
  have hRA5 := hk5 _ _ hRA4 (by intro e; injection e; omega) (fun c fz e => by cases e)
  have hbw5 : Below w.heap.size w w5 := (hb0.trans (hb04.mono hb0.size)).trans hb5
  have y0 := blk_cell hRA5 0
  have y1 := blk_cell hRA5 1
  have y2 := blk_cell hRA5 2
  have y3 := blk_cell hRA5 3
  simp at y0 y1 y2 y3
  have H5 := hd (And.intro h5 (And.intro hRA5 hbw5))
  have hbs : w1.heap.size < w5.heap.size := h5.lt
  clear h5 hIs hRA4 hRA5 hbw5 hk5 hb5 hb04 hB4
  go_wp2_with fail
  refine (known_any nm st _ _ bs.length (flc bs) gs _ (HRD.out _ H5.out.2.2).1 (HRD.out _ H5.out.2.2).2 HAS.out hgs (by omega)).mono ?_
  rintro e w6 ⟨kv, rfl, hok, hb6⟩
  rw [knL_len] at hok
  obtain ⟨Ak, ck, hkv, -⟩ := own_form hok
  subst hkv
  have HI := hd (show PInv w.heap.size w1.heap.size w5.heap.size w #[.string nm, .int .i64 st, .slice A1 bs.length c1, .slice A2 gs.length c2] (.slice Ak bs.length ck) bs.length (knL gs bs.length) (textP ita nm st (knL gs bs.length) bs 0) w6 from
    ⟨bldF_bel H5.out.1 hb6, hok, (hb6.block _ (by omega)).trans H5.out.2.1, H5.out.2.2.trans (hb6.mono (by omega))⟩)
  clear hok hb6 H5 y0 y1 y2 y3
  have HTL := hd (textP_len ita nm st (knL gs bs.length) bs (by have := HNM.out; omega) HST.out.1 (fun i hi hm => (HIT.out i hi hm).1))
  have hwb : w.heap.size < w1.heap.size := by omega
  go_wp2
  go_loopw [27] (fun i wr => ∃ k : Nat, k ≤ bs.length ∧ i = .int .i64 k ∧ Hid (PInv w.heap.size w1.heap.size w5.heap.size w #[.string nm, .int .i64 st, .slice A1 bs.length c1, .slice A2 gs.length c2] (.slice Ak bs.length ck) bs.length (knL gs bs.length) (textP ita nm st (knL gs bs.length) bs k) wr)) (fun i _ => bs.length - (intOf i).toNat)
  case atStart => exact ⟨0, Nat.zero_le _, rfl, HI⟩
  case round =>
    obtain ⟨k, hk, rfl, HR⟩ := hrel
    have hTL := HTL.out k hk
    by_cases hlt : k < bs.length
    · obtain ⟨hbd, hok, hrc, hbw⟩ := HR.out
      have hkl : k < (knL gs bs.length).length := by rw [knL_len]; exact hlt
      obtain ⟨g, hAk⟩ : ∃ g, Ak = some ⟨g, 0, none⟩ := by
        obtain ⟨Ax, cx, ex, hx⟩ := own_form hok
        cases ex
        exact hx (by omega)
      subst hAk
      have hcell : wr.cell? ⟨g, k, none⟩ = some (.bool ((knL gs bs.length).getD k false)) := by
        obtain ⟨A', c', e', h1, h2, h3⟩ := rd_of_own hok
        cases e'
        obtain ⟨b, off, eb, hb1, hb2⟩ := h3 (by omega)
        cases eb
        have := hb2 k (by simpa using hkl)
        simpa [hkl] using this
      have y2 := blk_cell hrc 2
      simp at y2
      have hrd := (HRD.out _ hbw).1
      have hwr := hbw.size
      clear hbd hok hrc hbw
      cases hm : (knL gs bs.length).getD k false
      · rw [hm] at hcell
        have HM := hd hm
        clear hm hrd y2
        obtain ⟨s5, hs5⟩ : ∃ s5, s5 = (⟨#[45]⟩ : ByteArray) ++ (⟨#[10]⟩ : ByteArray) := ⟨_, rfl⟩
        have k5 := run_cat _ _ _ hs5 (by decide)
        have HS5 := hd (show s5.data.toList = lineP ita (knL gs bs.length) bs k by rw [hs5]; unfold lineP; rw [HM.out]; simp)
        have hz5 : s5.size = 2 := by rw [hs5]; rfl
        clear hs5
        go_wp2_with fail
        refine (ws_any w.heap.size w1.heap.size _ s5 wr (bldF_is HR.out.1) (by rw [Lib.byteCells_length]; omega) hwr).mono ?_
        rintro e w7 ⟨rfl, h7⟩
        have HI7 := hd (PInv.step hwb hbs s5 _ HS5.out HR.out h7)
        clear h7
        go_wp2
        go_roundw
        case rel => exact ⟨k + 1, by omega, by go_num, HI7⟩
        case measure => simp [intOf]; omega
      · rw [hm] at hcell
        obtain ⟨b1, off1, hA1, hb1', hc1⟩ : ∃ b off : Nat, A1 = some ⟨b, off, none⟩ ∧ b < wr.heap.size ∧ wr.cell? ⟨b, off + k, none⟩ = some (.float .f32 (bs.getD k 0)) := by
          obtain ⟨A', c', e', h1, h2, h3⟩ := hrd
          cases e'
          obtain ⟨b, off, eb, hb1, hb2⟩ := h3 (by omega)
          refine ⟨b, off, eb, hb1, ?_⟩
          have := hb2 k (by simpa [flc] using hlt)
          simpa [flc, hlt] using this
        subst hA1
        have hlo := HV.out.lev k hlt
        have hik := HIT.out k hlt hm
        obtain ⟨lev, hlev⟩ : ∃ v, v = bs.getD k 0 := ⟨_, rfl⟩
        rw [← hlev] at hlo hc1 hik
        obtain ⟨hsx, hs1, hs2⟩ := sixt_of hlo
        have HSX := hd hsx
        have HIK := hd hik
        have HM := hd hm
        have HLV := hd hlev
        clear hm hrd hsx hlo hik hlev
        go_wp2_with fail
        refine (sixt_any _ _ _ HSX.out).mono ?_
        rintro e w' ⟨rfl, rfl⟩
        go_wp2_with fail
        refine (HIK.out.2 _ HR.out.2.2.2).mono ?_
        rintro e w7 ⟨rfl, hb7⟩
        have HR7 := hd (HR.out.below hwr hb7)
        have hwr7 : w.heap.size ≤ w7.heap.size := Nat.le_trans hwr hb7.size
        have hi5 := HIK.out.1
        obtain ⟨s5, hs5⟩ : ∃ s5, s5 = ita (s16 lev) ++ (⟨#[10]⟩ : ByteArray) := ⟨_, rfl⟩
        have k5 := run_cat _ _ _ hs5 (by show (ita _).size + 1 ≤ _; omega)
        have HS5 := hd (show s5.data.toList = lineP ita (knL gs bs.length) bs k by rw [hs5]; unfold lineP; rw [HM.out, ← HLV.out]; simp)
        have hz5 : s5.size = (ita (s16 lev)).size + 1 := by rw [hs5, cat_size]; rfl
        clear hs5 hb7 hc1 hcell y2
        go_wp2_with fail
        refine (ws_any w.heap.size w1.heap.size _ s5 w7 (bldF_is HR7.out.1) (by rw [Lib.byteCells_length]; omega) hwr7).mono ?_
        rintro e w8 ⟨rfl, h8⟩
        have HI8 := hd (PInv.step hwb hbs s5 _ HS5.out HR7.out h8)
        clear h8
        go_wp2
        go_roundw
        case rel => exact ⟨k + 1, by omega, by go_num, HI8⟩
        case measure => simp [intOf]; omega
    · obtain rfl : k = bs.length := by omega
      go_wp2_with fail
      refine (Tryz.Builder_String_any_k w.heap.size w1.heap.size _ wr (bldF_is HR.out.1) HR.out.2.2.2.size).mono ?_
      rintro e w9 ⟨rfl, h9, hb9, hk9⟩
      have HB9 := hd (HR.out.2.2.2.trans hb9)
      clear h9 hb9 hk9
      go_wp2
      go_ret2
      exact ⟨rfl, HB9.out⟩
theorem print_any (ita : Int → ByteArray) (nm : ByteArray) (st : Int) (lv gv : Value) (bs : List Nat) (gs : List (Int × Int)) (w : World) (hl : Rd w w.heap.size lv bs.length (flc bs)) (hg : Rd w w.heap.size gv gs.length (spc gs)) (V : Valid nm st bs gs)
    (hst : ItaOf ita st) (hit : ∀ i, i < bs.length → (knL gs bs.length).getD i false = true → ItaOf ita (s16 (bs.getD i 0))) :
    Calls Tryz.prog 14 #[.agg #[.string nm, .int .i64 st, lv, gv]] w fun e w' => e = .returned (.tuple #[.string ⟨(textP ita nm st (knL gs bs.length) bs bs.length).toArray⟩, .int .i64 0]) ∧ Below w.heap.size w w' := print_at ita nm st lv gv bs gs w hl hg V ⟨hst.1, fun W _ => hst.2 W⟩ (fun i hi hk => ⟨(hit i hi hk).1, fun W _ => (hit i hi hk).2 W⟩)
end Go.Proofs.YtkgkpcmokmhakaaGreatDoor

namespace Go.Proofs.YtkgkpcmokmhakaaGreatDoor
open Go.RowKit Go.Shelf
attribute [local go_sem] Oper.semAt_some

/-- The bytes of a word, the highest one first. -/
def four (x : Nat) : List Value := [.int .u8 ((x : Int) / 16777216 % 256), .int .u8 ((x : Int) / 65536 % 256), .int .u8 ((x : Int) / 256 % 256), .int .u8 ((x : Int) % 256)]
def fours (ws : List Nat) : List Value := (ws.map four).flatten
theorem fours_len (ws : List Nat) : (fours ws).length = 4 * ws.length := by
  induction ws with
  | nil => rfl
  | cons x l ih => simp only [fours, List.map_cons, List.flatten_cons, List.length_append, List.length_cons] at ih ⊢; rw [ih]; simp [four]; omega
theorem fours_snoc (ws : List Nat) (k : Nat) (h : k < ws.length) : fours (ws.take (k + 1)) = fours (ws.take k) ++ four (ws.getD k 0) := by
  have e : ws.getD k 0 = ws[k] := by simp [h]
  unfold fours
  rw [List.take_add_one, List.getElem?_eq_getElem h, e]
  simp only [Option.toList_some, List.map_append, List.map_cons, List.map_nil, List.flatten_append, List.flatten_cons, List.flatten_nil, List.append_nil]

theorem cell_four_new (W : World) (x y z u : Value) (t : TypeId) : ∀ j v, [x, y, z, u][j]? = some v → (W.alloc (.cells #[x, y, z, u] t)).cell? ((⟨W.heap.size, 0, none⟩ : Addr).add j) = some v := by
  intro j v hj
  match j, hj with
  | 0, hj => exact (blk_cell (blk_new W #[x, y, z, u] t) 0).trans hj
  | 1, hj => exact (blk_cell (blk_new W #[x, y, z, u] t) 1).trans hj
  | 2, hj => exact (blk_cell (blk_new W #[x, y, z, u] t) 2).trans hj
  | 3, hj => exact (blk_cell (blk_new W #[x, y, z, u] t) 3).trans hj
set_option maxRecDepth 1000000 in
set_option maxHeartbeats 4000000 in
theorem put_any (B : Nat) (v : Value) (n : Nat) (xs : List Value) (sl : Value) (ws : List Nat) (w : World) (hx : w.ownsRow B 5 1 v n xs) (hB : B ≤ w.heap.size) (hs : Rd w w.heap.size sl ws.length (ws.map (fun x : Nat => Value.int .u32 (x : Int)))) (hsb : ∀ b, sl.ownBlock = some b → v.ownBlock ≠ some b) (hn : n + 4 * ws.length ≤ 1000000) :
    Calls Tryz.prog 43 #[v, sl] w fun e w' => ∃ v', e = .returned v' ∧ w'.ownsRow B 5 1 v' (n + 4 * ws.length) (xs ++ fours ws) ∧ Below B w w' ∧ (v'.ownBlock = v.ownBlock ∨ ∀ g, v'.ownBlock = some g → w.heap.size ≤ g) ∧ w.grownBy w' v.ownBlock := by
  obtain ⟨i0, hi, hz0, hz1, hz2⟩ := info_parts byteInfo
  obtain ⟨A, c, rfl, hc1, hc2, hc⟩ := hs
  unfold maxLen at hc2
  have HC := hd hc
  have HX := hd hx
  have HSB := hd hsb
  clear hc hx hsb
  go_enter Tryz.func43, Tryz.ntmps43
  go_wp2
  go_loopw [0, 9] (fun u i wr => ∃ k : Nat, k ≤ ws.length ∧ i = .int .i64 k ∧ Hid (wr.ownsRow B 5 1 u (n + 4 * k) (xs ++ fours (ws.take k)) ∧ (u.ownBlock = v.ownBlock ∨ ∀ g, u.ownBlock = some g → w.heap.size ≤ g) ∧ w.grownBy wr v.ownBlock)) (fun _ i _ => ws.length - (intOf i).toNat)
  case atStart => exact ⟨0, Nat.zero_le _, rfl, ⟨by simpa [fours] using HX.out, .inl rfl, ⟨rfl, rfl, rfl, Nat.le_refl _, fun _ _ _ => rfl⟩⟩⟩
  case round =>
    obtain ⟨k, hk, rfl, HI⟩ := hrel
    have hws := HI.out.2.2.size
    by_cases hlt : k < ws.length
    · obtain ⟨b, off, rfl, hbb, hcell⟩ := HC.out (by omega)
      obtain ⟨x, hx⟩ : ∃ x, x = ws.getD k 0 := ⟨_, rfl⟩
      have hne : some b ≠ v.ownBlock := fun e => HSB.out b rfl e.symm
      have hcx : wr.cell? ⟨b, off + k, none⟩ = some (.int .u32 (x : Int)) := by
        have h1 := hcell k (by simpa using hlt)
        have h2 := HI.out.2.2.block b hbb hne
        rw [show wr.cell? ⟨b, off + k, none⟩ = w.cell? ⟨b, off + k, none⟩ by simp [World.cell?, h2], h1, hx]
        simp [hlt]
      have HXE := hd hx
      have H63 := hd (show n + 4 * k + 4 ≤ maxLen by unfold maxLen; omega)
      have HBY := hd (show (n + 4 * k + 4) * 1 ≤ 140737488355328 by omega)
      have HBL := hd (HI.out.2.2)
      clear hcell hne hx
      go_wp2_with (at_builtin; refine wpList_append_own_at _ rfl _ _ 55 rfl B 5 i0 (.int .u8 0) 1 1 Tryz.underlying55 hi hz0 hz1 hz2 rfl (by decide) _ _ _ rfl (HI.out.1.alloc _) ⟨wr.heap.size, 0, none⟩ 4 4 (four x) rfl rfl (cell_four_new _ _ _ _ _ _) (by simp [four, Value.oneCell']) H63.out HBY.out (by simp; omega) ?_; intro v' w1 hown' hgrow _ hat; have HN := hd (And.intro hown' (And.intro hgrow hat)); clear hown' hgrow hat)
      go_roundw
      case rel =>
        refine ⟨k + 1, by omega, by go_num, ⟨?_, ?_, ?_⟩⟩
        · rw [fours_snoc ws k hlt, ← HXE.out, ← List.append_assoc]; exact HN.out.1
        · rcases HN.out.2.2 with h | h
          · rw [h]; exact HI.out.2.1
          · refine .inr fun g hg => ?_
            rw [h] at hg
            have : (wr.alloc (Obj.cells (four x).toArray 5)).heap.size = g := Option.some.inj hg
            simp at this; omega
        · have g1 := HI.out.2.2
          have g2 := HN.out.2.1
          have g3 : wr.heap.size ≤ w1.heap.size := by have := g2.size; simp at this; omega
          refine ⟨g2.os.trans g1.os, g2.tape.trans g1.tape, g2.output.trans g1.output, Nat.le_trans g1.size g3, fun j hj hne => ?_⟩
          refine (g2.block j (by simp; omega) ?_).trans ((Below.heap_alloc wr _ j (by omega)).trans (g1.block j hj hne))
          intro e
          rcases HI.out.2.1 with h | h
          · exact hne (e.trans h)
          · have := h j e.symm; omega
      case measure => simp [intOf]; omega
    · obtain rfl : k = ws.length := by omega
      go_wp2
      go_ret
      refine ⟨_, rfl, by simpa using HI.out.1, gb_below HI.out.2.2 hB (fun j hj => (HX.out.lt j hj).1), HI.out.2.1, HI.out.2.2⟩
end Go.Proofs.YtkgkpcmokmhakaaGreatDoor

namespace Go.Proofs.YtkgkpcmokmhakaaGreatDoor
open Go.RowKit Go.Shelf
attribute [local go_sem] Oper.semAt_some

theorem f32bits_run (x : Nat) (w : World) : (callFunc 44 #[.float .f32 x]).run Tryz.prog w = .ok (.value (.int .u32 x)) w := by kernel_rfl
/-- What holds between the steps of Encode. -/
structure EI (n₀ B : Nat) (w1 : World) (RC : Array Value) (xs : List Value) (v : Value) (W : World) : Prop where
  own : W.ownsRow B 5 1 v xs.length xs
  rcd : W.heap[n₀]? = some (.cells RC 35 (0, 0))
  bel : Below B w1 W
theorem EI.put {n₀ B : Nat} {w1 : World} {RC : Array Value} {xs : List Value} {v : Value} {W : World} (h : EI n₀ B w1 RC xs v W) (hn : n₀ < B) (hB : B ≤ w1.heap.size) (W2 : World) (hb2 : Below W.heap.size W W2) (A : Nat) (hA : W.heap.size ≤ A) (m c : Nat) (ws : List Nat) (hr : Rd W2 W2.heap.size (.slice (some ⟨A, 0, none⟩) m c) ws.length (ws.map (fun x : Nat => Value.int .u32 (x : Int)))) (hl : xs.length + 4 * ws.length ≤ 1000000) :
    Calls Tryz.prog 43 #[v, .slice (some ⟨A, 0, none⟩) m c] W2 fun e w' => ∃ v', e = .returned v' ∧ EI n₀ B w1 RC (xs ++ fours ws) v' w' := by
  have hbw : B ≤ W2.heap.size := Nat.le_trans hB (Nat.le_trans h.bel.size hb2.size)
  refine (put_any B v xs.length xs _ ws W2 (own_bel h.own hb2) hbw hr (fun b hb e => ?_) hl).mono ?_
  · have h1 := (h.own.lt b e).2
    simp only [Value.ownBlock, Option.some.injEq] at hb
    omega
  · rintro e w' ⟨v', rfl, h1, h2, -, -⟩
    refine ⟨v', rfl, ?_, ?_, h.bel.trans ((hb2.mono (Nat.le_trans hB h.bel.size)).trans h2)⟩
    · rw [List.length_append, fours_len]; exact h1
    · exact (h2.block n₀ hn).trans ((hb2.block n₀ (blk_lt h.rcd)).trans h.rcd)
/-- The bytes of a stream: its head, its gaps, its levels. -/
def encH (nm : ByteArray) (st : Int) (n m : Nat) : List Value := [.int .u8 84, .int .u8 73, .int .u8 68, .int .u8 69] ++ [.int .u8 (nm.size : Int)] ++ Lib.strCells nm ++ fours [st.toNat, n, m]
def encG (gs : List (Int × Int)) : List Nat := (gs.map (fun g => [g.1.toNat, g.2.toNat])).flatten
theorem fours_app (a b : List Nat) : fours (a ++ b) = fours a ++ fours b := by simp [fours]
theorem encG_snoc (gs : List (Int × Int)) (k f t : Nat) (h : k < gs.length) (e : gs.getD k (0, 0) = ((f : Int), (t : Int))) : encG (gs.take (k + 1)) = encG (gs.take k) ++ [f, t] := by
  have e' : gs[k] = ((f : Int), (t : Int)) := by rw [← e]; simp [h]
  unfold encG
  rw [List.take_add_one, List.getElem?_eq_getElem h, e']
  simp only [Option.toList_some, List.map_append, List.map_cons, List.map_nil, List.flatten_append, List.flatten_cons, List.flatten_nil, List.append_nil, Int.toNat_natCast]
theorem encG_len (gs : List (Int × Int)) : (encG gs).length = 2 * gs.length := by
  induction gs with
  | nil => rfl
  | cons g l ih => simp only [encG, List.map_cons, List.flatten_cons, List.length_append, List.length_cons, List.length_nil] at ih ⊢; omega
def encL (bs : List Nat) : List Nat := bs.map (fun b => if b = 2147483648 then 0 else b)
theorem encL_snoc (bs : List Nat) (k : Nat) (h : k < bs.length) {y : Nat} (e : (if bs.getD k 0 = 2147483648 then 0 else bs.getD k 0) = y) : encL (bs.take (k + 1)) = encL (bs.take k) ++ [y] := by
  have e' : bs.getD k 0 = bs[k] := by simp [h]
  rw [e'] at e
  unfold encL
  rw [List.take_add_one, List.getElem?_eq_getElem h]
  simp only [Option.toList_some, List.map_append, List.map_cons, List.map_nil, e]
def encV (nm : ByteArray) (st : Int) (bs : List Nat) (gs : List (Int × Int)) : List Value := encH nm st bs.length gs.length ++ fours (encG gs) ++ fours (encL bs)

set_option maxRecDepth 1000000 in
set_option maxHeartbeats 8000000 in
theorem encode_any (nm : ByteArray) (st : Int) (lv gv : Value) (bs : List Nat) (gs : List (Int × Int)) (w : World) (hl : Rd w w.heap.size lv bs.length (flc bs)) (hg : Rd w w.heap.size gv gs.length (spc gs)) (V : Valid nm st bs gs) :
    Calls Tryz.prog 16 #[.agg #[.string nm, .int .i64 st, lv, gv]] w fun e w' => ∃ v, e = .returned (.tuple #[v, .int .i64 0]) ∧ w'.ownsRow w.heap.size 5 1 v (encV nm st bs gs).length (encV nm st bs gs) ∧ Below w.heap.size w w' := by
  obtain ⟨i0, hi, hz0, hz1, hz2⟩ := info_parts byteInfo
  have HL := hd hl
  have HG := hd hg
  have HV := hd V
  have hl2 := hl
  have hg2 := hg
  obtain ⟨A1, c1, rfl, hq1, hq2, -⟩ := hl2
  obtain ⟨A2, c2, rfl, hq3, hq4, -⟩ := hg2
  have hbn : bs.length ≤ 4096 := V.most
  unfold maxLen at hq2 hq4
  have hgs : gs.length ≤ 2048 := (chkSpans_ok gs V.spans).1
  have hst1 := V.start.1
  have hst2 := V.start.2
  have hnm : nm.size ≤ 24 := by have := V.name; unfold nameB at this; simp only [Bool.and_eq_true, decide_eq_true_eq] at this; exact this.1.2
  have HSP := hd (show ∀ k, k < gs.length → 0 ≤ (gs.getD k (0, 0)).1 ∧ (gs.getD k (0, 0)).1 ≤ (gs.getD k (0, 0)).2 ∧ (gs.getD k (0, 0)).2 ≤ 4096 from fun k hk => by have := V.ends k hk; have h2 := (chkSpans_ok gs V.spans).2.1 (gs.getD k (0, 0)) (by simp [hk]); omega)
  clear hl hg V
  go_enter Tryz.func16, Tryz.ntmps16
  go_wp2_with fail
  obtain ⟨W0, hW0⟩ : ∃ W0, W0 = w.alloc (.cells #[.string nm, .int .i64 st, .slice A1 bs.length c1, .slice A2 gs.length c2] 35) := ⟨_, rfl⟩
  have hsz : W0.heap.size = w.heap.size + 1 := by rw [hW0]; simp
  have hb0 : Below w.heap.size w W0 := by rw [hW0]; exact (Below.refl _ w).alloc (Nat.le_refl _) _
  have HRA := hd (show W0.heap[w.heap.size]? = some (.cells #[.string nm, .int .i64 st, .slice A1 bs.length c1, .slice A2 gs.length c2] 35 (0, 0)) by rw [hW0]; exact blk_new _ _ _)
  rw [← hW0]
  clear hW0
  have HRD := hd (fun (W : World) (hB : Below w.heap.size w W) => And.intro ((HL.out.below hB (Nat.le_refl _)).mono hB.size) ((HG.out.below hB (Nat.le_refl _)).mono hB.size))
  refine (chkRec_ok nm st _ _ bs gs _ (HRD.out _ hb0).1 (HRD.out _ hb0).2 HV.out).mono ?_
  rintro e w1 ⟨rfl, hb1⟩
  have hb1s := hb1.size
  have HW1 := hd (hb0.trans (hb1.mono hb0.size))
  have hra1 := (hb1.block _ (show w.heap.size < W0.heap.size by omega)).trans HRA.out
  have y0 := blk_cell hra1 0
  have y1 := blk_cell hra1 1
  have y2 := blk_cell hra1 2
  have y3 := blk_cell hra1 3
  simp at y0 y1 y2 y3
  have x0 := fun o => cell_alloc_old (o := o) y0
  have xx0 := fun o o' => cell_alloc_old (o := o') (x0 o)
  have HB1 := hd (And.intro hb1 hra1)
  have H63 := hd (show 4 + 1 ≤ maxLen by decide)
  have HBY := hd (show (4 + 1) * 1 ≤ 140737488355328 by decide)
  clear hb1 hra1 y1 y2 y3
  have hcv := Lib.run_convert_bytes_const (P := Tryz.prog) w1 55 5 #[.int .u8 84, .int .u8 73, .int .u8 68, .int .u8 69] 4 4 Tryz.underlying55 Tryz.underlying5
  have x0' : (w1.alloc (.cells #[.int .u8 84, .int .u8 73, .int .u8 68, .int .u8 69] 5 (4, 5))).cell? ⟨w.heap.size, 0, none⟩ = some (.string nm) := Lib.cell?_alloc_marked _ y0
  go_wp2_with (at_builtin; refine wpList_append_grows _ rfl _ _ 55 rfl 5 i0 (.int .u8 0) 1 1 Tryz.underlying55 hi hz0 hz1 hz2 rfl (by decide) (some ⟨w1.heap.size, 0, none⟩) 4 4 [.int .u8 84, .int .u8 73, .int .u8 68, .int .u8 69] rfl (fun h => by cases h) rfl ?co ⟨w1.heap.size + 1, 0, none⟩ 1 1 [.int .u8 (nm.size : Int)] rfl rfl ?cc (by simp [Value.oneCell']) (by decide) H63.out HBY.out ?_)
  case cc => simpa using cell_one_new (w1.alloc (.cells #[.int .u8 84, .int .u8 73, .int .u8 68, .int .u8 69] 5 (4, 5))) (.int .u8 (nm.size : Int)) 5
  case co =>
    intro b hb j u hj
    cases hb
    have h1 : ((w1.alloc (.cells #[.int .u8 84, .int .u8 73, .int .u8 68, .int .u8 69] 5 (4, 5))).alloc (.cells #[.int .u8 (nm.size : Int)] 5)).heap[w1.heap.size]? = some (.cells #[.int .u8 84, .int .u8 73, .int .u8 68, .int .u8 69] 5 (4, 5)) := by
      rw [Below.heap_alloc _ _ _ (by simp)]
      show (w1.heap.push _)[w1.heap.size]? = _
      simp
    have h2 : ∀ j, ((w1.alloc (.cells #[.int .u8 84, .int .u8 73, .int .u8 68, .int .u8 69] 5 (4, 5))).alloc (.cells #[.int .u8 (nm.size : Int)] 5)).cell? ⟨w1.heap.size, j, none⟩ = (#[.int .u8 84, .int .u8 73, .int .u8 68, .int .u8 69] : Array Value)[j]? := fun j => by simp [World.cell?, h1]
    match j, hj with
    | 0, hj => exact (h2 0).trans hj
    | 1, hj => exact (h2 1).trans hj
    | 2, hj => exact (h2 2).trans hj
    | 3, hj => exact (h2 3).trans hj
  intro v2 w2 hown2' hgrow2
  have hown2 : w2.ownsRow w1.heap.size 5 1 v2 5 [.int .u8 84, .int .u8 73, .int .u8 68, .int .u8 69, .int .u8 (nm.size : Int)] := own_base hown2' (by first | omega | (simp; omega))
  have hm12 : Below w1.heap.size w1 ((w1.alloc (.cells #[.int .u8 84, .int .u8 73, .int .u8 68, .int .u8 69] 5 (4, 5))).alloc (.cells #[.int .u8 (nm.size : Int)] 5)) := ((Below.refl _ w1).alloc (Nat.le_refl _) _).alloc (by simp) _
  have hb12 : Below w1.heap.size w1 w2 := hm12.trans (gb_below hgrow2 hm12.size (fun j hj => by cases hj))
  clear hown2' hm12
  have hnw : w.heap.size < w1.heap.size := by omega
  have hra2 := (hb12.block _ hnw).trans HB1.out.2
  have z0 := blk_cell hra2 0
  simp at z0
  have HE2 := hd (And.intro hown2 (And.intro hra2 hb12))
  obtain ⟨A3, c3, hv2, -⟩ := own_form hown2
  subst hv2
  have hs12 := hb12.size
  have H64 := hd (show 5 + nm.size ≤ maxLen by unfold maxLen; omega)
  have HBZ := hd (show 5 + nm.size ≤ 140737488355328 by omega)
  clear hown2 hgrow2 hra2 hb12 x0 xx0 y0 x0' hcv
  go_wp2_with (at_builtin; refine Lib.wpList_append_own_string _ rfl _ _ 55 9 rfl w1.heap.size 5 i0 Tryz.underlying55 Tryz.underlying9 hi hz0 hz1 hz2 _ _ _ rfl HE2.out.1 nm rfl H64.out HBZ.out hs12 ?_; intro v3 w3 hown3 hgrow3 _; have HO3 := hd (And.intro hown3 hgrow3); have hra3 := (hgrow3.block w.heap.size (by omega) (fun e => by have := (HE2.out.1.lt _ e.symm).1; omega)).trans HE2.out.2.1; have k1 := blk_cell hra3 1; have k2 := blk_cell hra3 2; have k3 := blk_cell hra3 3; simp at k1 k2 k3; clear hown3 hgrow3 hra3)
  obtain ⟨hown3, hgrow3⟩ := HO3.out
  have HI3 := hd (show EI w.heap.size w1.heap.size w1 #[.string nm, .int .i64 st, .slice A1 bs.length c1, .slice A2 gs.length c2] ([.int .u8 84, .int .u8 73, .int .u8 68, .int .u8 69, .int .u8 (nm.size : Int)] ++ Lib.strCells nm) v3 w3 from
    ⟨by rw [List.length_append, Lib.strCells_length]; exact hown3, (hgrow3.block w.heap.size (by omega) (fun e => by have := (HE2.out.1.lt _ e.symm).1; omega)).trans HE2.out.2.1, HE2.out.2.2.trans (gb_below hgrow3 (by omega) (fun j hj => (HE2.out.1.lt j hj).1))⟩)
  clear hown3 hgrow3 HO3 HE2
  obtain ⟨s, hs⟩ : ∃ s : Nat, st = (s : Int) := ⟨st.toNat, by omega⟩
  subst hs
  refine (HI3.out.put hnw (Nat.le_refl _) (w3.alloc (.cells #[.int .u32 (s : Int), .int .u32 (bs.length : Int), .int .u32 (gs.length : Int)] 102)) ((Below.refl _ w3).alloc (Nat.le_refl _) _) w3.heap.size (Nat.le_refl _) 3 3 [s, bs.length, gs.length] (Rd.new w3 #[.int .u32 (s : Int), .int .u32 (bs.length : Int), .int .u32 (gs.length : Int)] 102 3 _ rfl (by decide)) (by simp [Lib.strCells_length]; omega)).mono ?_
  rintro e w4 ⟨v4, rfl, HI4⟩
  have HI4 := hd HI4
  have k3' := blk_cell HI4.out.rcd 3
  have k2' := blk_cell HI4.out.rcd 2
  simp at k3' k2'
  clear k1 k2 k3
  go_wp2
  go_loopw [5, 45] (fun u i wr => ∃ k : Nat, k ≤ gs.length ∧ i = .int .i64 k ∧ Hid (EI w.heap.size w1.heap.size w1 #[.string nm, .int .i64 (s : Int), .slice A1 bs.length c1, .slice A2 gs.length c2] (encH nm (s : Int) bs.length gs.length ++ fours (encG (gs.take k))) u wr)) (fun _ i _ => gs.length - (intOf i).toNat)
  case atStart => exact ⟨0, Nat.zero_le _, rfl, hd (by have e : encH nm (s : Int) bs.length gs.length ++ fours (encG (gs.take 0)) = ([.int .u8 84, .int .u8 73, .int .u8 68, .int .u8 69, .int .u8 (nm.size : Int)] ++ Lib.strCells nm) ++ fours [s, bs.length, gs.length] := (by simp [encH, encG, fours]); rw [e]; exact HI4.out)⟩
  case round =>
    obtain ⟨k, hk, rfl, HI⟩ := hrel
    by_cases hlt : k < gs.length
    · have hbw := HW1.out.trans (HI.out.bel.mono (by omega))
      obtain ⟨A', c', e', -, -, hx⟩ := (HRD.out _ hbw).2
      cases e'
      obtain ⟨b, off, rfl, hbb, hcell⟩ := hx (by omega)
      obtain ⟨q1, q2⟩ := spc_getD gs k hlt
      have hs0 : wr.cell? ⟨b, off + k * 2, none⟩ = some (.int .i64 (gs.getD k (0, 0)).1) := (hcell (k * 2) (by rw [spc_len]; omega)).trans q1
      have hs1 : wr.cell? ⟨b, off + k * 2 + 1, none⟩ = some (.int .i64 (gs.getD k (0, 0)).2) := (hcell (k * 2 + 1) (by rw [spc_len]; omega)).trans q2
      have hsp := HSP.out k hlt
      obtain ⟨f, t, hft⟩ : ∃ f t : Nat, gs.getD k (0, 0) = ((f : Int), (t : Int)) := ⟨(gs.getD k (0, 0)).1.toNat, (gs.getD k (0, 0)).2.toNat, by
        have h1 : (((gs.getD k (0, 0)).1.toNat : Nat) : Int) = (gs.getD k (0, 0)).1 := by omega
        have h2 : (((gs.getD k (0, 0)).2.toNat : Nat) : Int) = (gs.getD k (0, 0)).2 := by omega
        rw [h1, h2]⟩
      rw [hft] at hs0 hs1 hsp
      simp only at hs0 hs1 hsp
      have HFT := hd hft
      have hki : (k : Int) < (gs.length : Int) := by omega
      have hwr := HI.out.bel.size
      clear hft q1 q2 hcell hx hbw
      have hlen : (encH nm (s : Int) bs.length gs.length ++ fours (encG (gs.take k))).length ≤ 100000 := by
        simp only [List.length_append, fours_len, encG_len, List.length_take, encH, Lib.strCells_length, List.length_cons, List.length_nil]; omega
      go_wp2_with fail
      refine (HI.out.put hnw (Nat.le_refl _) ((wr.alloc (.cells #[.int .i64 (f : Int), .int .i64 (t : Int)] 50)).alloc (.cells #[.int .u32 (f : Int), .int .u32 (t : Int)] 102)) (((Below.refl _ wr).alloc (Nat.le_refl _) _).alloc (by simp) _) (wr.heap.size + 1) (by omega) 2 2 [f, t] (by
        have := Rd.new (wr.alloc (.cells #[.int .i64 (f : Int), .int .i64 (t : Int)] 50)) #[.int .u32 (f : Int), .int .u32 (t : Int)] 102 2 _ rfl (by decide)
        simpa using this) (by show _ + 4 * 2 ≤ _; omega)).mono ?_
      rintro e w7 ⟨v7, rfl, h7⟩
      have HI7 := hd h7
      clear h7 hs0 hs1
      go_wp2
      go_roundw
      case rel => exact ⟨k + 1, by omega, by go_num, hd (by have := HI7.out; rw [List.append_assoc, ← fours_app, ← encG_snoc gs k f t hlt HFT.out] at this; exact this)⟩
      case measure => simp [intOf]; omega
    · obtain rfl : k = gs.length := by omega
      have k2 := blk_cell HI.out.rcd 2
      simp at k2
      have HJ := hd (show EI w.heap.size w1.heap.size w1 #[.string nm, .int .i64 (s : Int), .slice A1 bs.length c1, .slice A2 gs.length c2] (encH nm (s : Int) bs.length gs.length ++ fours (encG gs) ++ fours (encL (bs.take 0))) u5 wr by have := HI.out; rw [List.take_length] at this; simpa [encL, fours] using this)
      clear HI HI4 k2' k3'
      go_wp2
      go_loopw [5, 62] (fun u i wq => ∃ k : Nat, k ≤ bs.length ∧ i = .int .i64 k ∧ Hid (EI w.heap.size w1.heap.size w1 #[.string nm, .int .i64 (s : Int), .slice A1 bs.length c1, .slice A2 gs.length c2] (encH nm (s : Int) bs.length gs.length ++ fours (encG gs) ++ fours (encL (bs.take k))) u wq)) (fun _ i _ => bs.length - (intOf i).toNat)
      case atStart => exact ⟨0, Nat.zero_le _, rfl, HJ⟩
      case round =>
        obtain ⟨k, hk, rfl, HI⟩ := hrel
        by_cases hlt : k < bs.length
        · have hbw := HW1.out.trans (HI.out.bel.mono (by omega))
          obtain ⟨A', c', e', -, -, hx⟩ := (HRD.out _ hbw).1
          cases e'
          obtain ⟨b, off, rfl, hbb, hcell⟩ := hx (by omega)
          obtain ⟨x, hx'⟩ : ∃ x, x = bs.getD k 0 := ⟨_, rfl⟩
          have hc : wr.cell? ⟨b, off + k, none⟩ = some (.float .f32 x) := by
            have := hcell k (by simpa [flc] using hlt)
            rw [this, hx']; simp [flc, hlt]
          have HXE := hd hx'
          have hwr := HI.out.bel.size
          have hfb := f32bits_run x
          have hlen : (encH nm (s : Int) bs.length gs.length ++ fours (encG gs) ++ fours (encL (bs.take k))).length ≤ 100000 := by
            simp only [List.length_append, fours_len, encG_len, encL, List.length_map, List.length_take, encH, Lib.strCells_length, List.length_cons, List.length_nil]; omega
          clear hcell hx' hbw
          by_cases hq : x = 2147483648
          · subst hq
            go_wp2_with fail
            refine (HI.out.put hnw (Nat.le_refl _) (wr.alloc (.cells #[.int .u32 0] 102)) ((Below.refl _ wr).alloc (Nat.le_refl _) _) wr.heap.size (Nat.le_refl _) 1 1 [0] (Rd.new wr #[.int .u32 0] 102 1 _ rfl (by decide)) (by show _ + 4 * 1 ≤ _; omega)).mono ?_
            rintro e w7 ⟨v7, rfl, h7⟩
            have HI7 := hd h7
            clear h7 hc
            go_wp2
            go_roundw
            case rel => exact ⟨k + 1, by omega, by go_num, hd (by have := HI7.out; rw [List.append_assoc, ← fours_app, ← encL_snoc bs k hlt (by rw [← HXE.out]; simp)] at this; exact this)⟩
            case measure => simp [intOf]; omega
          · have hq' : decide ((x : Int) = 2147483648) = false := by simp; omega
            go_wp2_with fail
            refine (HI.out.put hnw (Nat.le_refl _) (wr.alloc (.cells #[.int .u32 (x : Int)] 102)) ((Below.refl _ wr).alloc (Nat.le_refl _) _) wr.heap.size (Nat.le_refl _) 1 1 [x] (Rd.new wr #[.int .u32 (x : Int)] 102 1 _ rfl (by decide)) (by show _ + 4 * 1 ≤ _; omega)).mono ?_
            rintro e w7 ⟨v7, rfl, h7⟩
            have HI7 := hd h7
            clear h7 hc
            go_wp2
            go_roundw
            case rel => exact ⟨k + 1, by omega, by go_num, hd (by have := HI7.out; rw [List.append_assoc, ← fours_app, ← encL_snoc bs k hlt (by rw [← HXE.out, if_neg hq])] at this; exact this)⟩
            case measure => simp [intOf]; omega
        · obtain rfl : k = bs.length := by omega
          have HJ2 := hd (show EI w.heap.size w1.heap.size w1 #[.string nm, .int .i64 (s : Int), .slice A1 bs.length c1, .slice A2 gs.length c2] (encV nm (s : Int) bs gs) u5 wr by have := HI.out; rw [List.take_length] at this; exact this)
          clear HI HJ
          go_wp2
          go_ret2
          exact ⟨_, rfl, own_base HJ2.out.own (by omega), HW1.out.trans (HJ2.out.bel.mono (by omega))⟩
end Go.Proofs.YtkgkpcmokmhakaaGreatDoor
