/-
  gauge.Encode refused; levels and bytes that come in, opened. Conditions: written at each.
  Plain words of GaugeStreams: the cells of a stream are those of a string. No program.
  Bytes that come in, opened; slices of bytes and the strings that they turn into. Conditions: written at each.
  Plain words: a record's stream is read as the record; without its last byte it is torn, with a byte more it has no shape. No program.
  Plain words: a record's stream is read as the record; one byte less, one byte more. No program.
-/
import Derived.Test.YtnncmaegmlaabaaGreatDoorProg
import Derived.Test.YtnncmaegmlaabaaGreatDoorQ3
import Derived.Test.YtnncmaegmlaabaaGreatDoorOpm
import Derived.Test.YtnncmaegmlaabaaGreatDoorS1
import Derived.Test.YtnncmaegmlaabaaGreatDoorMQ
import Derived.Test.YtnncmaegmlaabaaGreatDoorS3
import Derived.ChangeSlices
import Derived.Lib.BufferRead
import Derived.Test.YtnncmaegmlaabaaGreatDoorT1
import Derived.Test.YtnncmaegmlaabaaGreatDoorQ4
import Derived.Test.YtnncmaegmlaabaaGreatDoorYI

namespace Go.Proofs.YtnncmaegmlaabaaGreatDoor
open Go Go.ChangeShapes Go.WideShapes Go.ChangeAt Go.RowKit Go.Joins
attribute [local go_sem] Oper.semAt_some

section
variable {H : Type} {enc : TypeId × Value → H}
set_option maxRecDepth 1000000 in
theorem trod_f32b {w : World} {base : Nat} {spare : Nat → Bool} {held : Bool} {t : TypeId} {fuel : Nat} {cs : List Value} {x : DataW H × List MemPlace} (ht : Tryz.prog.underlying t = some (.float .f32)) (h : DataW.trod enc Tryz.prog w base spare held fuel t cs = some x) : ∃ b, cs = [.float .f32 b] ∧ b < 4294967296 := by
  cases fuel with
  | zero => simp [DataW.trod] at h
  | succ n =>
    unfold DataW.trod at h
    simp only [ht] at h
    split at h
    all_goals first
      | (simp_all; done)
      | (rename_i k k' b hk
         first | (injection hk with hk; injection hk with hk) | injection hk with hk
         subst hk
         split at h
         · rename_i hw
           obtain ⟨rfl, hw2⟩ := hw
           exact ⟨b, rfl, by simpa [Lit.wf] using hw2⟩
         · cases h)
set_option maxRecDepth 1000000 in
theorem open_levels32 {W : World} {fuel : Nat} {v : Value} {x : DataW H × List MemPlace} (hf : DataW.trod enc Tryz.prog W 0 (fun _ => true) true fuel 22 [v] = some x) : ∃ l : List Nat, Rd W W.heap.size v l.length (flc l) ∧ Full v ∧ ∀ j, j < l.length → l.getD j 0 < 4294967296 := by
  rcases Deep.open_slice1 Tryz.underlying22 (by kernel_rfl) hf with ⟨e, -⟩ | ⟨a, len, cap, m, n, V, D, Pl, e, hb, hl, hm, hmm, -, hx⟩
  · injection e with e
    rw [e]
    exact ⟨[], Rd.nil _ _, .inl rfl, fun j hj => by simp at hj⟩
  · injection e with e
    subst e
    simp only [if_true] at hmm
    subst hmm
    obtain ⟨B, hB⟩ := Deep.choose_lt (α := Nat) (p := fun i q => V i = .float .f32 q ∧ q < 4294967296) (n := m) (fun i hi => by
      obtain ⟨b, h0, h1⟩ := trod_f32b Tryz.underlying65 (hx i hi).2
      exact ⟨b, by simpa using h0, h1⟩)
    refine ⟨(List.range len).map B, ?_, .inr ⟨a, len, m, rfl⟩, fun j hj => ?_⟩
    · have hlen : ((List.range len).map B).length = len := by simp
      rw [hlen]
      refine rd_of_cells (sz := 1) hl hm (by simp [flc]) (by omega) fun j hj => ?_
      refine ⟨_, (hx j (by omega)).1, ?_⟩
      rw [(hB j (by omega)).1]
      simp [flc, show j < len by omega]
    · have hj' : j < len := by simpa using hj
      have := (hB j (by omega)).2
      simpa [hj'] using this
end
end Go.Proofs.YtnncmaegmlaabaaGreatDoor

namespace Go.Proofs.YtnncmaegmlaabaaGreatDoor
open Go Go.RowKit

/-- A cell that is a byte. -/
def isByte (v : Value) : Prop := ∃ n : Nat, n < 256 ∧ v = .int .u8 (n : Int)
theorem bytes_str : ∀ l : List Value, (∀ v ∈ l, isByte v) → ∃ B : ByteArray, Lib.strCells B = l
  | [], _ => ⟨⟨#[]⟩, rfl⟩
  | v :: l, h => by
    obtain ⟨B, hB⟩ := bytes_str l (fun x hx => h x (List.mem_cons_of_mem _ hx))
    obtain ⟨n, hn, rfl⟩ := h v (List.mem_cons_self ..)
    refine ⟨⟨(UInt8.ofNat n :: B.data.toList).toArray⟩, ?_⟩
    unfold Lib.strCells at hB ⊢
    simp only [List.map_cons]
    rw [hB]
    congr 1
    simp
    omega
theorem four_byte (x : Nat) : ∀ v ∈ four x, isByte v := by
  intro v hv
  simp only [four, List.mem_cons, List.not_mem_nil, or_false] at hv
  rcases hv with rfl | rfl | rfl | rfl
  · exact ⟨x / 16777216 % 256, by omega, by congr 1⟩
  · exact ⟨x / 65536 % 256, by omega, by congr 1⟩
  · exact ⟨x / 256 % 256, by omega, by congr 1⟩
  · exact ⟨x % 256, by omega, by congr 1⟩
theorem fours_byte (ws : List Nat) : ∀ v ∈ fours ws, isByte v := by
  intro v hv
  unfold fours at hv
  obtain ⟨l, hl, hv⟩ := List.mem_flatten.1 hv
  obtain ⟨x, -, rfl⟩ := List.mem_map.1 hl
  exact four_byte x v hv
theorem encV_str (nm : ByteArray) (st : Int) (bs : List Nat) (gs : List (Int × Int)) (hn : nm.size < 256) : ∃ B : ByteArray, Lib.strCells B = encV nm st bs gs := by
  apply bytes_str
  intro v hv
  unfold encV encH at hv
  simp only [List.mem_append, List.mem_cons, List.not_mem_nil, or_false] at hv
  rcases hv with ((((h | h) | h) | h) | h) | h
  · rcases h with rfl | rfl | rfl | rfl
    · exact ⟨84, by omega, rfl⟩
    · exact ⟨73, by omega, rfl⟩
    · exact ⟨68, by omega, rfl⟩
    · exact ⟨69, by omega, rfl⟩
  · exact ⟨nm.size, hn, h⟩
  · unfold Lib.strCells at h
    obtain ⟨b, -, rfl⟩ := List.mem_map.1 h
    exact ⟨b.toNat, b.toNat_lt, rfl⟩
  · exact fours_byte _ v h
  · exact fours_byte _ v h
  · exact fours_byte _ v h
end Go.Proofs.YtnncmaegmlaabaaGreatDoor

namespace Go.Proofs.YtnncmaegmlaabaaGreatDoor
open Go Go.ChangeShapes Go.WideShapes Go.ChangeAt Go.RowKit Go.Joins
attribute [local go_sem] Oper.semAt_some

section
variable {H : Type} {enc : TypeId × Value → H}
end

end Go.Proofs.YtnncmaegmlaabaaGreatDoor

namespace Go.Proofs.YtnncmaegmlaabaaGreatDoor
open Go.RowKit

theorem fours_at : ∀ (ws : List Nat) (i j : Nat), i < ws.length → j < 4 → (fours ws)[4 * i + j]? = (four (ws.getD i 0))[j]?
  | [], i, j, h, _ => absurd h (by simp)
  | x :: ws, 0, j, _, hj => by
    have e : fours (x :: ws) = four x ++ fours ws := by simp [fours]
    have hl : (four x).length = 4 := rfl
    rw [e, List.getElem?_append_left (by rw [hl]; omega)]
    simp
  | x :: ws, i + 1, j, h, hj => by
    have e : fours (x :: ws) = four x ++ fours ws := by simp [fours]
    have hl : (four x).length = 4 := rfl
    have ih := fours_at ws i j (by simpa using h) hj
    rw [e, List.getElem?_append_right (by rw [hl]; omega), hl, show 4 * (i + 1) + j - 4 = 4 * i + j by omega, ih]
    simp
/-- The words of a stream behind its name. -/
def allW (st : Int) (bs : List Nat) (gs : List (Int × Int)) : List Nat := [st.toNat, bs.length, gs.length] ++ encG gs ++ encL bs
def preA (nm : ByteArray) : List Value := [.int .u8 84, .int .u8 73, .int .u8 68, .int .u8 69] ++ [.int .u8 (nm.size : Int)] ++ Lib.strCells nm
theorem preA_len (nm : ByteArray) : (preA nm).length = 5 + nm.size := by unfold preA; simp [Lib.strCells_length]; omega
theorem encV_all (nm : ByteArray) (st : Int) (bs : List Nat) (gs : List (Int × Int)) : encV nm st bs gs = preA nm ++ fours (allW st bs gs) := by
  unfold encV encH allW preA
  rw [fours_app, fours_app]
  simp only [List.append_assoc]
theorem encV_size (nm : ByteArray) (st : Int) (bs : List Nat) (gs : List (Int × Int)) : (encV nm st bs gs).length = 17 + nm.size + 8 * gs.length + 4 * bs.length := by
  rw [encV_all, List.length_append, preA_len, fours_len]
  unfold allW
  simp only [List.length_append, List.length_cons, List.length_nil, encG_len, encL, List.length_map]
  omega
/-- The first bytes are those of a record's stream. -/
def Agr (s : ByteArray) (nm : ByteArray) (st : Int) (bs : List Nat) (gs : List (Int × Int)) (k : Nat) : Prop := ∀ i, i < k → (encV nm st bs gs)[i]? = some (.int .u8 (bAt s i : Int))
section
variable {s nm : ByteArray} {st : Int} {bs : List Nat} {gs : List (Int × Int)} {k : Nat}
theorem agr_word (h : Agr s nm st bs gs k) (i : Nat) (hi : i < (allW st bs gs).length) (hk : 5 + nm.size + 4 * i + 4 ≤ k) (hx : (allW st bs gs).getD i 0 < 4294967296) : w4 s (5 + nm.size + 4 * i) = (allW st bs gs).getD i 0 := by
  have hb : ∀ j, j < 4 → (four ((allW st bs gs).getD i 0))[j]? = some (.int .u8 (bAt s (5 + nm.size + 4 * i + j) : Int)) := fun j hj => by
    have h1 := h (5 + nm.size + 4 * i + j) (by omega)
    rw [encV_all, List.getElem?_append_right (by rw [preA_len]; omega), preA_len, show 5 + nm.size + 4 * i + j - (5 + nm.size) = 4 * i + j by omega, fours_at _ i j hi hj] at h1
    exact h1
  generalize (allW st bs gs).getD i 0 = x at *
  have b0 := hb 0 (by omega)
  have b1 := hb 1 (by omega)
  have b2 := hb 2 (by omega)
  have b3 := hb 3 (by omega)
  simp only [four, List.getElem?_cons_zero, List.getElem?_cons_succ, Option.some.injEq, Value.int.injEq, true_and, Nat.add_zero] at b0 b1 b2 b3
  unfold w4
  omega
theorem agr_head (h : Agr s nm st bs gs k) (hk : 5 + nm.size ≤ k) (hs : k ≤ s.size) : ((s.extract 0 4).toList == [84, 73, 68, 69]) = true ∧ bAt s 4 = nm.size ∧ s.extract 5 (5 + nm.size) = nm := by
  have hl : s.data.toList.length = s.size := by simp
  have hat : ∀ i, i < 5 + nm.size → (preA nm)[i]? = some (.int .u8 (bAt s i : Int)) := fun i hi => by
    have h1 := h i (by omega)
    rw [encV_all, List.getElem?_append_left (by rw [preA_len]; omega)] at h1
    exact h1
  have hb : ∀ i (v : Int), i < 5 + nm.size → (preA nm)[i]? = some (.int .u8 v) → (bAt s i : Int) = v := fun i v hi hv => by
    have h1 := hat i hi
    rw [hv] at h1
    injection h1 with h1
    injection h1 with _ h1
    exact h1.symm
  have c0 := hb 0 84 (by omega) rfl
  have c1 := hb 1 73 (by omega) rfl
  have c2 := hb 2 68 (by omega) rfl
  have c3 := hb 3 69 (by omega) rfl
  have c4 := hb 4 (nm.size : Int) (by omega) rfl
  have hdt : ∀ i, i < s.size → s.data.toList[i]? = some (UInt8.ofNat (bAt s i)) := fun i hi => by
    have h1 : i < s.data.toList.length := by omega
    have h2 : bAt s i = (s.data.toList[i]'h1).toNat := by
      unfold bAt
      rw [List.getD_eq_getElem?_getD, List.getElem?_eq_getElem h1]; rfl
    rw [List.getElem?_eq_getElem h1, h2]
    simp
  refine ⟨?_, by omega, ?_⟩
  · rw [beq_iff_eq, ByteArray.toList_eq, Lib.extract_data]
    apply List.ext_getElem?
    intro i
    by_cases hi : i < 4
    · rw [List.getElem?_take_of_lt (by omega), List.getElem?_drop, Nat.zero_add, hdt i (by omega)]
      have : i = 0 ∨ i = 1 ∨ i = 2 ∨ i = 3 := by omega
      rcases this with rfl | rfl | rfl | rfl
      · rw [show bAt s 0 = 84 by omega]; rfl
      · rw [show bAt s 1 = 73 by omega]; rfl
      · rw [show bAt s 2 = 68 by omega]; rfl
      · rw [show bAt s 3 = 69 by omega]; rfl
    · rw [List.getElem?_eq_none (by simp; omega), List.getElem?_eq_none (by simp; omega)]
  · have hnl : nm.data.toList.length = nm.size := by simp
    have e : (s.extract 5 (5 + nm.size)).data.toList = nm.data.toList := by
      rw [Lib.extract_data]
      apply List.ext_getElem?
      intro i
      by_cases hi : i < nm.size
      · rw [List.getElem?_take_of_lt (by omega), List.getElem?_drop, hdt (5 + i) (by omega)]
        have h1 := hat (5 + i) (by omega)
        have hpre : (preA nm)[5 + i]? = (Lib.strCells nm)[i]? := by
          unfold preA
          rw [List.getElem?_append_right (by simp)]
          simp
        rw [hpre, strCells_at nm i hi] at h1
        injection h1 with h1
        injection h1 with _ h1
        have h2 : bAt nm i = (nm.data.toList[i]'(by omega)).toNat := by
          unfold bAt
          rw [List.getD_eq_getElem?_getD, List.getElem?_eq_getElem (by omega)]; rfl
        rw [show bAt s (5 + i) = bAt nm i by omega, h2, List.getElem?_eq_getElem (by omega)]
        simp
      · rw [List.getElem?_eq_none (by simp; omega), List.getElem?_eq_none (by omega)]
    cases hq : s.extract 5 (5 + nm.size) with
    | mk d1 => cases nm with
      | mk d2 => rw [hq] at e; exact congrArg ByteArray.mk (Array.toList_inj.1 e)
/-- What a stream is read as, whose head is a record's. -/
theorem agr_nums (h : Agr s nm st bs gs k) (hk : 17 + nm.size ≤ k) (hs : k ≤ s.size) (h1 : 0 ≤ st ∧ st ≤ 100000) (h2 : bs.length ≤ 100000) (h3 : gs.length ≤ 100000) :
    bAt s 4 = nm.size ∧ dNl s = bs.length ∧ dNg s = gs.length ∧ dNm s = nm ∧ dSt s = st := by
  obtain ⟨-, a2, a3⟩ := agr_head h (by omega) hs
  have hlen : 3 ≤ (allW st bs gs).length := by unfold allW; simp
  have w0 := agr_word h 0 (by omega) (by omega) (by show st.toNat < _; omega)
  have w1 := agr_word h 1 (by omega) (by omega) (by show bs.length < _; omega)
  have w2 := agr_word h 2 (by omega) (by omega) (by show gs.length < _; omega)
  have w0 : w4 s (5 + nm.size) = st.toNat := w0
  have w1 : w4 s (5 + nm.size + 4) = bs.length := w1
  have w2 : w4 s (5 + nm.size + 8) = gs.length := w2
  refine ⟨a2, ?_, ?_, ?_, ?_⟩
  · unfold dNl; rw [a2, show 9 + nm.size = 5 + nm.size + 4 by omega]; exact w1
  · unfold dNg; rw [a2, show 13 + nm.size = 5 + nm.size + 8 by omega]; exact w2
  · unfold dNm; rw [a2]; exact a3
  · unfold dSt; rw [a2, w0]; omega
end
end Go.Proofs.YtnncmaegmlaabaaGreatDoor

namespace Go.Proofs.YtnncmaegmlaabaaGreatDoor
open Go.RowKit

theorem encG_at : ∀ (gs : List (Int × Int)) (i : Nat), i < gs.length → (encG gs).getD (2 * i) 0 = (gs.getD i (0, 0)).1.toNat ∧ (encG gs).getD (2 * i + 1) 0 = (gs.getD i (0, 0)).2.toNat
  | [], i, h => absurd h (by simp)
  | g :: gs, 0, _ => by constructor <;> simp [encG]
  | g :: gs, i + 1, h => by
    obtain ⟨h1, h2⟩ := encG_at gs i (by simpa using h)
    have e : encG (g :: gs) = [g.1.toNat, g.2.toNat] ++ encG gs := by simp [encG]
    rw [e]
    have a1 : ([g.1.toNat, g.2.toNat] ++ encG gs).getD (2 * (i + 1)) 0 = (encG gs).getD (2 * i) 0 := by
      rw [List.getD_eq_getElem?_getD, List.getD_eq_getElem?_getD, List.getElem?_append_right (by simp; omega)]
      simp only [List.length_cons, List.length_nil]
      rw [show 2 * (i + 1) - (0 + 1 + 1) = 2 * i by omega]
    have a2 : ([g.1.toNat, g.2.toNat] ++ encG gs).getD (2 * (i + 1) + 1) 0 = (encG gs).getD (2 * i + 1) 0 := by
      rw [List.getD_eq_getElem?_getD, List.getD_eq_getElem?_getD, List.getElem?_append_right (by simp; omega)]
      simp only [List.length_cons, List.length_nil]
      rw [show 2 * (i + 1) + 1 - (0 + 1 + 1) = 2 * i + 1 by omega]
    rw [a1, a2, h1, h2]
    simp
section
variable {s nm : ByteArray} {st : Int} {bs : List Nat} {gs : List (Int × Int)} {k : Nat}
theorem allW_gap (st : Int) (bs : List Nat) (gs : List (Int × Int)) (j : Nat) (h : j < 2 * gs.length) : (allW st bs gs).getD (3 + j) 0 = (encG gs).getD j 0 := by
  unfold allW
  rw [List.getD_eq_getElem?_getD, List.getD_eq_getElem?_getD, List.append_assoc, List.getElem?_append_right (by simp), List.getElem?_append_left (by simp [encG_len]; omega)]
  simp
theorem allW_lev (st : Int) (bs : List Nat) (gs : List (Int × Int)) (j : Nat) : (allW st bs gs).getD (3 + 2 * gs.length + j) 0 = (encL bs).getD j 0 := by
  unfold allW
  have hl : ([st.toNat, bs.length, gs.length] ++ encG gs).length = 3 + 2 * gs.length := by simp [encG_len]; omega
  rw [List.getD_eq_getElem?_getD, List.getD_eq_getElem?_getD, List.getElem?_append_right (by omega), hl, show 3 + 2 * gs.length + j - (3 + 2 * gs.length) = j by omega]
theorem allW_len (st : Int) (bs : List Nat) (gs : List (Int × Int)) : (allW st bs gs).length = 3 + 2 * gs.length + bs.length := by
  unfold allW
  simp only [List.length_append, List.length_cons, List.length_nil, encG_len, encL, List.length_map]
theorem encL_at (bs : List Nat) (i : Nat) (h : i < bs.length) : (encL bs).getD i 0 = if bs.getD i 0 = 2147483648 then 0 else bs.getD i 0 := by simp [encL, h]
/-- The gaps and the levels that are read. -/
theorem agr_body (h : Agr s nm st bs gs (17 + nm.size + 8 * gs.length + 4 * bs.length)) (hs : 17 + nm.size + 8 * gs.length + 4 * bs.length ≤ s.size) (V : Valid nm st bs gs) (h32 : ∀ j, j < bs.length → bs.getD j 0 < 4294967296) :
    dGs s = gs ∧ dBs s = encL bs := by
  have hsp := (chkSpans_ok gs V.spans)
  obtain ⟨a1, a2, a3, -, -⟩ := agr_nums h (by omega) hs V.start (Nat.le_trans V.most (by omega)) (Nat.le_trans hsp.1 (by omega))
  have hW := allW_len st bs gs
  constructor
  · unfold dGs dG
    rw [a1, a3]
    apply ext_getD _ _ (0, 0)
    · simp
    · intro i hi
      have hi : i < gs.length := by simpa using hi
      obtain ⟨g1, g2⟩ := encG_at gs i hi
      have hb := hsp.2.1 _ (getD_mem gs i hi)
      have e1 := allW_gap st bs gs (2 * i) (by omega)
      have e2 := allW_gap st bs gs (2 * i + 1) (by omega)
      rw [g1] at e1
      rw [g2] at e2
      have w1 := agr_word h (3 + 2 * i) (by omega) (by omega) (by rw [e1]; omega)
      have w2 := agr_word h (3 + (2 * i + 1)) (by omega) (by omega) (by rw [e2]; omega)
      rw [e1] at w1
      rw [e2] at w2
      have hg : ((List.range gs.length).map fun i : Nat => ((w4 s (17 + nm.size + 8 * i) : Int), (w4 s (17 + nm.size + 8 * i + 4) : Int))).getD i (0, 0) = ((w4 s (17 + nm.size + 8 * i) : Int), (w4 s (17 + nm.size + 8 * i + 4) : Int)) := by simp [hi]
      rw [hg, show 17 + nm.size + 8 * i = 5 + nm.size + 4 * (3 + 2 * i) by omega, w1, show 5 + nm.size + 4 * (3 + 2 * i) + 4 = 5 + nm.size + 4 * (3 + (2 * i + 1)) by omega, w2]
      refine Prod.ext ?_ ?_
      · show (((gs.getD i (0, 0)).1.toNat : Nat) : Int) = _
        omega
      · show (((gs.getD i (0, 0)).2.toNat : Nat) : Int) = _
        omega
  · unfold dBs dB
    rw [a1, a2, a3]
    apply ext_getD _ _ 0
    · simp [encL]
    · intro i hi
      have hi : i < bs.length := by simpa using hi
      have e1 := allW_lev st bs gs i
      have hx : (encL bs).getD i 0 < 4294967296 := by rw [encL_at bs i hi]; have := h32 i hi; split <;> omega
      have w1 := agr_word h (3 + 2 * gs.length + i) (by omega) (by omega) (by rw [e1]; exact hx)
      rw [e1] at w1
      have hg : ((List.range bs.length).map fun i : Nat => w4 s (17 + nm.size + 8 * gs.length + 4 * i)).getD i 0 = w4 s (17 + nm.size + 8 * gs.length + 4 * i) := by simp [hi]
      rw [hg, show 17 + nm.size + 8 * gs.length + 4 * i = 5 + nm.size + 4 * (3 + 2 * gs.length + i) by omega, w1]
theorem encL_ok (V : Valid nm st bs gs) (hl : ∀ i, i < bs.length → chkLev (bs.getD i 0) = 0) : chkRec nm st (encL bs) gs = 0 := by
  have hel : (encL bs).length = bs.length := by simp [encL]
  have r1 : rec1 nm st (encL bs).length = 0 := by
    have h1 : unl (nameB nm) 8 = 0 := by rw [V.name]; rfl
    have h2 : rng st 0 100000 = 0 := if_pos V.start
    have h3 : most (((encL bs).length : Nat) : Int) 4096 = 0 := if_pos (by rw [hel]; have := V.most; omega)
    unfold rec1
    rw [h1, h2, h3]; rfl
  have h1 : fst0 (levErr (encL bs)) = 0 := fst0_all _ (fun j hj => by
    have hj : j < (encL bs).length := by simpa [levErr] using hj
    rw [levErr_at _ j hj, encL_at bs j (by omega)]
    split
    · exact lev_zeroK
    · exact hl j (by omega))
  have h2 := rec2_fine (bs := encL bs) h1 V.spans (fun j hj => by rw [hel]; exact V.ends j hj)
  have h3 : silB (encL bs) gs = true := by
    refine (silB_true _ _ (fun x hx => ?_)).2 ?_
    · obtain ⟨j, hj, rfl⟩ := List.mem_iff_getElem.1 hx
      have := V.ends j hj
      rw [hel]
      simpa [hj] using this
    · intro j hj i hi1 hi2
      have he := V.ends j hj
      rw [encL_at bs i (by omega)]
      split
      · decide +kernel
      · exact V.silent j hj i hi1 hi2
  unfold chkRec
  rw [if_pos r1, if_pos h2, h3]; rfl
theorem encL_min (bs : List Nat) : 2147483648 ∉ encL bs := fun h => by
  obtain ⟨b, -, hb⟩ := List.mem_map.1 h
  by_cases e : b = 2147483648
  · rw [if_pos e] at hb; omega
  · rw [if_neg e] at hb; exact e hb
theorem encL_same (hl : ∀ i, i < bs.length → chkLev (bs.getD i 0) = 0) : sameF feqL 0 (encL bs) bs = true :=
  sameF_yes feqL 0 _ _ (by simp [encL]) fun j hj => by
    have hj : j < bs.length := by simpa [encL] using hj
    rw [encL_at bs j hj]
    split
    · rename_i e; rw [e]; decide +kernel
    · exact feq_self (hl j hj)
/-- A record's stream is read as the record. -/
theorem stream_read (V : Valid nm st bs gs) (hl : ∀ i, i < bs.length → chkLev (bs.getD i 0) = 0) (h32 : ∀ j, j < bs.length → bs.getD j 0 < 4294967296) (h : Lib.strCells s = encV nm st bs gs) :
    decE s = 0 ∧ dNm s = nm ∧ dSt s = st ∧ dGs s = gs ∧ dBs s = encL bs := by
  have hsz : s.size = 17 + nm.size + 8 * gs.length + 4 * bs.length := by rw [← encV_size, ← h, Lib.strCells_length]
  have hA : Agr s nm st bs gs (17 + nm.size + 8 * gs.length + 4 * bs.length) := fun i hi => by rw [← h]; exact strCells_at s i (by omega)
  have hsp := (chkSpans_ok gs V.spans)
  obtain ⟨a1, a2, a3, a4, a5⟩ := agr_nums hA (by omega) (by omega) V.start (Nat.le_trans V.most (by omega)) (Nat.le_trans hsp.1 (by omega))
  obtain ⟨b1, b2⟩ := agr_body hA (by omega) V h32
  obtain ⟨c1, -, -⟩ := agr_head hA (by omega) (by omega)
  refine ⟨?_, a4, a5, b1, b2⟩
  unfold decE
  rw [if_neg (by omega), if_pos c1, a1, a2, a3, if_neg (by omega), if_neg (by omega), if_neg (by omega)]
  unfold bodE
  have e1 : dB s (17 + nm.size + 8 * gs.length) bs.length = encL bs := by have := b2; unfold dBs at this; rw [a1, a2, a3] at this; exact this
  have e2 : dG s (17 + nm.size) gs.length = gs := by have := b1; unfold dGs at this; rw [a1, a3] at this; exact this
  rw [e1, e2, if_neg (encL_min bs), a4, a5]
  exact encL_ok V hl
/-- One byte less. -/
theorem stream_torn (V : Valid nm st bs gs) (h : Lib.strCells s = (encV nm st bs gs).take ((encV nm st bs gs).length - 1)) : decE s = 29 := by
  have hev := encV_size nm st bs gs
  have hsz : s.size = 16 + nm.size + 8 * gs.length + 4 * bs.length := by
    have := congrArg List.length h
    rw [Lib.strCells_length, List.length_take, hev] at this
    omega
  have hA : Agr s nm st bs gs (16 + nm.size + 8 * gs.length + 4 * bs.length) := fun i hi => by
    have h1 := strCells_at s i (by omega)
    rw [h, List.getElem?_take_of_lt (by omega)] at h1
    exact h1
  have hsp := (chkSpans_ok gs V.spans)
  obtain ⟨c1, c2, -⟩ := agr_head hA (by omega) (by omega)
  unfold decE
  rw [if_neg (by omega), if_pos c1, c2]
  by_cases h17 : s.size < 17 + nm.size
  · rw [if_pos h17]
  · obtain ⟨a1, a2, a3, -, -⟩ := agr_nums hA (by omega) (by omega) V.start (Nat.le_trans V.most (by omega)) (Nat.le_trans hsp.1 (by omega))
    rw [if_neg h17, a2, a3, if_pos (by omega)]
/-- One byte more. -/
theorem stream_more (V : Valid nm st bs gs) (v : Value) (h : Lib.strCells s = encV nm st bs gs ++ [v]) : decE s = 2 := by
  have hev := encV_size nm st bs gs
  have hsz : s.size = 18 + nm.size + 8 * gs.length + 4 * bs.length := by
    have := congrArg List.length h
    rw [Lib.strCells_length, List.length_append, hev] at this
    simp at this
    omega
  have hA : Agr s nm st bs gs (17 + nm.size + 8 * gs.length + 4 * bs.length) := fun i hi => by
    have h1 := strCells_at s i (by omega)
    rw [h, List.getElem?_append_left (by omega)] at h1
    exact h1
  have hsp := (chkSpans_ok gs V.spans)
  obtain ⟨c1, -, -⟩ := agr_head hA (by omega) (by omega)
  obtain ⟨a1, a2, a3, -, -⟩ := agr_nums hA (by omega) (by omega) V.start (Nat.le_trans V.most (by omega)) (Nat.le_trans hsp.1 (by omega))
  unfold decE
  rw [if_neg (by omega), if_pos c1, a1, a2, a3, if_neg (by omega), if_neg (by omega), if_pos (by omega)]
end
end Go.Proofs.YtnncmaegmlaabaaGreatDoor
