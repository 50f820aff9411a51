/-
  Plain words: a record's text is read as the record; what is read is printed as it was. No program.
  Plain words: a record's text is read as the record; without its last byte it is none; what is read is printed as it was. No program.
  Contract of gauge.Decode: what a stream is read as. Condition: the bytes are there, at most 500.
  Plain words: a record's stream is read as the record; without its last byte it is torn, with a byte more it has no shape. No program.
  Plain words: a record's stream is read as the record; one byte less, one byte more. No program.
-/
import Derived.Test.YtkgkpcmokmhakaaGreatDoorD1
import Derived.Test.YtkgkpcmokmhakaaGreatDoorY7
import Derived.Test.YtkgkpcmokmhakaaGreatDoorProg
import Derived.Test.YtkgkpcmokmhakaaGreatDoorS2
import Derived.Test.YtkgkpcmokmhakaaGreatDoorOpm
import Derived.Test.YtkgkpcmokmhakaaGreatDoorMQ
import Derived.Test.YtkgkpcmokmhakaaGreatDoorT7
import Derived.Test.YtkgkpcmokmhakaaGreatDoorQ4
import Derived.Test.YtkgkpcmokmhakaaGreatDoorYI

namespace Go.Proofs.YtkgkpcmokmhakaaGreatDoor
open Go.RowKit

theorem itB_data (n : Int) : (itB n).data.toList = Lib.itoa n := by unfold itB; simp
theorem itoa_sgn (s : ByteArray) (n : Int) (h : s.data.toList = Lib.itoa n) (h1 : -999999999 ≤ n) (h2 : n ≤ 999999999) : sgnB s = some n := by
  have hl : s.data.toList.length = s.size := by simp
  by_cases hn : n < 0
  · obtain ⟨u, hu, hu1⟩ : ∃ u : Nat, n = -(u : Int) ∧ 1 ≤ u := ⟨n.natAbs, by omega, by omega⟩
    rw [hu, Lib.itoa_neg u hu1] at h
    have hd := (dec_facts u u (Nat.le_refl _)).2.2.1
    have hc : 1 < s.size ∧ bAt s 0 = 45 := ⟨by rw [← hl, h]; simp; omega, by rw [bAt_zero s 45 _ h]; rfl⟩
    have he : (s.extract 1 s.size).data.toList = Lib.decDigits u := by
      rw [Lib.extract_data, h]
      simp only [List.drop_succ_cons, List.drop_zero]
      exact List.take_of_length_le (by rw [← hl, h]; simp)
    rw [sgnB_neg hc, dec_numB _ u he (by omega)]
    simp only
    rw [if_pos (by omega), hu]
  · obtain ⟨u, hu⟩ : ∃ u : Nat, n = (u : Int) := ⟨n.toNat, by omega⟩
    rw [hu, Lib.itoa_nonneg u] at h
    have hf := dec_facts u u (Nat.le_refl _)
    have hc : ¬ (1 < s.size ∧ bAt s 0 = 45) := by
      rintro ⟨c1, c2⟩
      obtain ⟨d, l, e⟩ : ∃ d l, Lib.decDigits u = d :: l := by
        cases hq : Lib.decDigits u with
        | nil => rw [hq] at hf; simp at hf
        | cons d l => exact ⟨d, l, rfl⟩
      rw [bAt_zero s d l (by rw [h, e])] at c2
      have := hf.2.1
      rw [e, List.all_cons, Bool.and_eq_true] at this
      have h3 := this.1
      unfold isD at h3
      rw [c2] at h3
      revert h3; decide
    rw [sgnB_pos hc, dec_numB s u h (by omega), hu]; rfl
theorem dec_no (u : Nat) (c : UInt8) (hc : isD c = false) : c ∉ Lib.decDigits u := fun h => by
  have := List.all_eq_true.1 (dec_facts u u (Nat.le_refl _)).2.1 c h
  rw [hc] at this; cases this
theorem itoa_no (n : Int) (c : UInt8) (hc : isD c = false) (h45 : c ≠ 45) : c ∉ (itB n).data.toList := by
  rw [itB_data]
  unfold Lib.itoa
  split
  · intro h
    rcases List.mem_cons.1 h with h | h
    · exact h45 h
    · exact dec_no _ c hc h
  · exact dec_no _ c hc
theorem name_no {nm : ByteArray} (h : nameB nm = true) (c : UInt8) (hc : c.toNat < 48) : c ∉ nm.data.toList := fun hm => by
  unfold nameB at h
  simp only [Bool.and_eq_true, decide_eq_true_eq] at h
  obtain ⟨i, hi, rfl⟩ := List.getElem_of_mem hm
  have hl : nm.data.toList.length = nm.size := by simp
  have h1 := h.2 i (by omega)
  have e : (nm[i]'(by omega)).toNat = (nm.data.toList[i]'hi).toNat := rfl
  rw [e] at h1
  unfold nameAt isLet isDig at h1
  simp only [Bool.or_eq_true, Bool.and_eq_true, decide_eq_true_eq] at h1
  omega
/-- The first line of a record's text, and the lines of its ticks. -/
def hdB (nm : ByteArray) (st : Int) : ByteArray := (⟨#[103, 97, 117, 103, 101, 32]⟩ : ByteArray) ++ nm ++ ⟨#[32]⟩ ++ itB st
def lnB (bs : List Nat) (gs : List (Int × Int)) (k : Nat) : ByteArray := if hasL gs k = true then ⟨#[45]⟩ else itB (s16 (bs.getD k 0))
def lnsB (nm : ByteArray) (st : Int) (bs : List Nat) (gs : List (Int × Int)) (k : Nat) : List ByteArray := hdB nm st :: (List.range k).map (lnB bs gs)
theorem txB_join (nm : ByteArray) (st : Int) (bs : List Nat) (gs : List (Int × Int)) : ∀ k, (txB nm st bs gs k).data.toList = joinC 10 ((lnsB nm st bs gs k).map (·.data.toList))
  | 0 => by
    rw [txB]
    simp [lnsB, joinC, hdB]
  | k + 1 => by
    have ih := txB_join nm st bs gs k
    have e : (lnsB nm st bs gs (k + 1)).map (·.data.toList) = (lnsB nm st bs gs k).map (·.data.toList) ++ [(lnB bs gs k).data.toList] := by simp [lnsB, List.range_succ]
    have e2 : joinC 10 ((lnsB nm st bs gs k).map (·.data.toList) ++ [(lnB bs gs k).data.toList]) = joinC 10 ((lnsB nm st bs gs k).map (·.data.toList)) ++ ((lnB bs gs k).data.toList ++ [10]) := by simp [joinC]
    rw [e, e2, ← ih, txB]
    unfold lnB
    split
    · simp
    · simp
theorem lns_no {nm : ByteArray} (h : nameB nm = true) (st : Int) (bs : List Nat) (gs : List (Int × Int)) (k : Nat) : ∀ x ∈ lnsB nm st bs gs k, (10 : UInt8) ∉ x.data.toList := by
  intro x hx
  rcases List.mem_cons.1 hx with rfl | hx
  · have h1 := name_no h 10 (by decide)
    have h2 := itoa_no st 10 (by decide) (by decide)
    unfold hdB
    simp only [ByteArray.data_append, Array.toList_append, List.mem_append, not_or]
    exact ⟨⟨⟨by decide, h1⟩, by decide⟩, h2⟩
  · obtain ⟨i, -, rfl⟩ := List.mem_map.1 hx
    unfold lnB
    split
    · decide
    · exact itoa_no _ 10 (by decide) (by decide)
theorem txB_lines {nm : ByteArray} (h : nameB nm = true) (st : Int) (bs : List Nat) (gs : List (Int × Int)) (k : Nat) : tL (txB nm st bs gs k) = lnsB nm st bs gs k ∧ tE (txB nm st bs gs k) = ⟨#[]⟩ :=
  tL_join _ _ ⟨#[]⟩ (by rw [txB_join]; simp) (lns_no h st bs gs k) (by decide)
theorem hdB_words {nm : ByteArray} (h : nameB nm = true) (st : Int) : spl (hdB nm st) 32 = [⟨#[103, 97, 117, 103, 101]⟩, nm, itB st] := by
  refine spl_join (hdB nm st) 32 [⟨#[103, 97, 117, 103, 101]⟩, nm] (itB st) ?_ ?_ (itoa_no st 32 (by decide) (by decide))
  · unfold hdB
    simp [joinC]
  · intro x hx
    rcases List.mem_cons.1 hx with rfl | hx
    · decide
    · rw [List.mem_singleton.1 hx]
      exact name_no h 32 (by decide)
theorem hdB_ok {nm : ByteArray} (h : nameB nm = true) (st : Int) (h1 : 0 ≤ st) (h2 : st ≤ 100000) : hdOk (hdB nm st) = true ∧ numB (itB st) = some st.toNat := by
  have hn : numB (itB st) = some st.toNat := dec_numB _ _ (by rw [itB_data]; unfold Lib.itoa; rw [if_neg (by omega)]) (by omega)
  refine ⟨?_, hn⟩
  unfold hdOk
  rw [hdB_words h st]
  have hz : (nm.toList == []) = false := by
    rw [beq_eq_false_iff_ne, ByteArray.toList_eq]
    intro e
    unfold nameB at h
    simp only [Bool.and_eq_true, decide_eq_true_eq] at h
    have hl : nm.data.toList.length = nm.size := by simp
    rw [e] at hl
    simp at hl
    omega
  have hg : ((⟨#[103, 97, 117, 103, 101]⟩ : ByteArray).toList == [103, 97, 117, 103, 101]) = true := by rw [ByteArray.toList_eq]; rfl
  simp only [List.headD_cons, List.getD_cons_zero, List.getD_cons_succ, List.tail_cons, List.length_nil]
  rw [hg, hz, hn]
  rfl
theorem dash_ok : dsh ⟨#[45]⟩ = true := by unfold dsh; rw [ByteArray.toList_eq]; rfl
theorem s16_small : (List.range 2049).all (fun k => decide (s16 (lvQ ((k : Int) - 1024)) = (k : Int) - 1024)) = true := by decide +kernel
theorem s16_lvQ (n : Int) (h1 : -1024 ≤ n) (h2 : n ≤ 1024) : s16 (lvQ n) = n := by
  have h := List.all_eq_true.1 s16_small (n + 1024).toNat (by simp; omega)
  have e : (((n + 1024).toNat : Nat) : Int) - 1024 = n := by omega
  rw [e] at h
  exact of_decide_eq_true h
end Go.Proofs.YtkgkpcmokmhakaaGreatDoor

namespace Go.Proofs.YtkgkpcmokmhakaaGreatDoor
open Go.RowKit

section
variable {nm : ByteArray} {st : Int} {bs : List Nat} {gs : List (Int × Int)}
theorem hd_lns (nm : ByteArray) (st : Int) (bs : List Nat) (gs : List (Int × Int)) (k : Nat) : (lnsB nm st bs gs k).headD ⟨#[]⟩ = hdB nm st ∧ (lnsB nm st bs gs k).tail = (List.range k).map (lnB bs gs) := ⟨rfl, rfl⟩
theorem lnB_ok (hl : ∀ i, i < bs.length → chkLev (bs.getD i 0) = 0) (i : Nat) (hi : i < bs.length) : lvOk (lnB bs gs i) = true ∧ (sgnB (lnB bs gs i)).isSome = !hasL gs (i : Int) ∧ (sgnB (lnB bs gs i)).getD 0 = (if hasL gs (i : Int) = true then 0 else s16 (bs.getD i 0)) := by
  have h1 := hl i hi
  obtain ⟨-, t1, t2⟩ := sixt_of (show levOK (bs.getD i 0) = true by rw [levOK_iff]; simpa using h1)
  unfold lnB
  cases hh : hasL gs (i : Int)
  · rw [if_neg (by decide)]
    have hs := itoa_sgn (itB (s16 (bs.getD i 0))) (s16 (bs.getD i 0)) (itB_data _) (by omega) (by omega)
    unfold lvOk
    rw [hs]
    simp
  · rw [if_pos rfl]
    have hs := dsh_sgn dash_ok
    unfold lvOk
    rw [hs, dash_ok]
    simp
/-- What a valid record's text is read as. -/
theorem print_read (V : Valid nm st bs gs) (hl : ∀ i, i < bs.length → chkLev (bs.getD i 0) = 0) :
    txtE (txB nm st bs gs bs.length) = 0 ∧ tNm (txB nm st bs gs bs.length) = nm ∧ tSt (txB nm st bs gs bs.length) = st ∧ tGs (txB nm st bs gs bs.length) = gs ∧ sameF feqL 0 (tBs (txB nm st bs gs bs.length)) bs = true := by
  obtain ⟨c1, c2⟩ := txB_lines V.name st bs gs bs.length
  obtain ⟨h1, h2⟩ := hd_lns nm st bs gs bs.length
  obtain ⟨k1, k2⟩ := hdB_ok V.name st V.start.1 V.start.2
  obtain ⟨s, hs⟩ : ∃ s, s = txB nm st bs gs bs.length := ⟨_, rfl⟩
  rw [← hs] at c1 c2 ⊢
  have e1 : tHd s = hdB nm st := by unfold tHd; rw [c1, h1]
  have e2 : tT s = (List.range bs.length).map (lnB bs gs) := by unfold tT; rw [c1, h2]
  have e3 : hedB s = true := by unfold hedB; rw [e1, k1, c1]; simp [lnsB]
  have hlen : (tT s).length = bs.length := by rw [e2]; simp
  have hget : ∀ i, i < bs.length → (tT s).getD i ⟨#[]⟩ = lnB bs gs i := fun i hi => by rw [e2]; simp [hi]
  have e4 : synB s = false := syn_no e3 (fbd_all (fun i hi => by rw [hget i (by omega)]; exact (lnB_ok hl i (by omega)).1)) (by rw [c2]; rfl)
  have eN : tNm s = nm := by unfold tNm; rw [e1, hdB_words V.name st]; rfl
  have eS : tSt s = st := by
    unfold tSt
    rw [e1, hdB_words V.name st]
    simp only [List.getD_cons_succ, List.getD_cons_zero]
    rw [k2]
    have := V.start.1
    simp only [Option.getD_some]; omega
  have hms : ∀ i, i < bs.length → (msT (tT s)).getD i false = !hasL gs (i : Int) := fun i hi => by
    have : (msT (tT s)).getD i false = (sgnB ((tT s).getD i ⟨#[]⟩)).isSome := by simp [msT, hlen, hi]
    rw [this, hget i hi]
    exact (lnB_ok hl i hi).2.1
  have hml : (msT (tT s)).length = bs.length := by simp [msT, hlen]
  have hbl : (bsT (tT s)).length = bs.length := by simp [bsT, hlen]
  have hbs : ∀ i, i < bs.length → (bsT (tT s)).getD i 0 = lvQ (if hasL gs (i : Int) = true then 0 else s16 (bs.getD i 0)) := fun i hi => by
    have : (bsT (tT s)).getD i 0 = lvX ((tT s).getD i ⟨#[]⟩) := by simp [bsT, hlen, hi]
    rw [this, hget i hi]
    unfold lvX
    rw [(lnB_ok hl i hi).2.2]
  have hbg : (nsT (tT s)).any bigN = false := by
    rw [List.any_eq_false]
    intro n hn
    obtain ⟨y, hy, rfl⟩ := List.mem_map.1 hn
    rw [e2] at hy
    obtain ⟨i, hi, rfl⟩ := List.mem_map.1 hy
    have hi := List.mem_range.1 hi
    have h1 := hl i hi
    obtain ⟨-, t1, t2⟩ := sixt_of (show levOK (bs.getD i 0) = true by rw [levOK_iff]; simpa using h1)
    rw [(lnB_ok hl i hi).2.2]
    unfold bigN
    split
    · decide
    · rw [decide_eq_false (by omega), decide_eq_false (by omega)]; decide
  have hF : fst0 [unl (nameB nm) 8, rng st 0 100000] = 0 := by
    have r1 : unl (nameB nm) 8 = 0 := by rw [V.name]; rfl
    have r2 : rng st 0 100000 = 0 := if_pos V.start
    rw [r1, r2]; rfl
  have eE : txtE s = 0 := by
    unfold txtE
    rw [e4]
    show chkRec (tNm s) (tSt s) (asmK (bsT (tT s)) (msT (tT s)) (tT s).length) (strF ((msT (tT s)).map (!·)) (tT s).length) = 0
    rw [chk_txt _ _ _ (by rw [hlen]; exact V.most), eN, eS, hF, if_pos rfl, hbg]; rfl
  have eG : tGs s = gs := by
    have hC := can_of gs V.spans
    unfold tGs
    rw [hlen]
    obtain ⟨g1, g2, g3⟩ := str_can ((msT (tT s)).map (!·)) bs.length
    refine can_uniq _ _ g1 hC fun t => ?_
    rw [g3 t]
    by_cases ht : 0 ≤ t ∧ t < (bs.length : Int)
    · have hi : t.toNat < bs.length := by omega
      have e5 : ((msT (tT s)).map (!·)).getD t.toNat false = !(msT (tT s)).getD t.toNat false := not_getD _ _ (by omega)
      rw [e5, hms _ hi, decide_eq_true ht.1, decide_eq_true ht.2, show ((t.toNat : Nat) : Int) = t by omega]
      simp
    · have hz : hasL gs t = false := by
        rw [Bool.eq_false_iff]
        intro h
        obtain ⟨x, hx, h3, h4⟩ := hasL_true.1 h
        obtain ⟨j, hj, rfl⟩ := List.mem_iff_getElem.1 hx
        have h5 := (chkSpans_ok gs V.spans).2.1 _ hx
        have h6 := V.ends j hj
        rw [show gs.getD j (0, 0) = gs[j] by simp [hj]] at h6
        exact ht ⟨by omega, by omega⟩
      rw [hz]
      have : (decide (0 ≤ t) && decide (t < (bs.length : Int))) = false := by
        rw [Bool.and_eq_false_iff, decide_eq_false_iff_not, decide_eq_false_iff_not]; omega
      rw [this]; rfl
  refine ⟨eE, eN, eS, eG, ?_⟩
  have hbl2 : (tBs s).length = bs.length := by unfold tBs; rw [hlen, ← hbl, asmK_len]
  refine sameF_yes feqL 0 _ _ hbl2 fun j hj => ?_
  rw [hbl2] at hj
  have h0 : chkLev 0 = 0 := lev_zeroK
  have hb := hl j hj
  have hat : (tBs s).getD j 0 = if (msT (tT s)).getD j false = true then (bsT (tT s)).getD j 0 else 0 := by
    unfold tBs
    rw [hlen, ← hbl, asmK_at _ _ j (by omega)]
  rw [hat, hms j hj]
  cases hh : hasL gs (j : Int)
  · obtain ⟨-, t1, t2⟩ := sixt_of (show levOK (bs.getD j 0) = true by rw [levOK_iff]; simpa using hb)
    rw [if_pos (by rfl), hbs j hj, hh, if_neg (by decide)]
    have hc : chkLev (lvQ (s16 (bs.getD j 0))) = 0 := by rw [lev_lvQ _ (by omega) (by omega), if_neg (by omega)]
    rw [feq16 hc hb, s16_lvQ _ t1 t2]
    simp
  · rw [if_neg (by decide)]
    have hq : feqL (bs.getD j 0) 0 = true := by
      obtain ⟨x, hx, h1, h2⟩ := hasL_true.1 hh
      obtain ⟨q, hq, rfl⟩ := List.mem_iff_getElem.1 hx
      have := V.silent q hq j (by simpa [hq] using h1) (by simpa [hq] using h2)
      unfold feqL
      simpa using this
    rw [feq16 hb h0] at hq
    rw [feq16 h0 hb]
    exact decide_eq_true (of_decide_eq_true hq).symm
end
end Go.Proofs.YtkgkpcmokmhakaaGreatDoor

namespace Go.Proofs.YtkgkpcmokmhakaaGreatDoor
open Go.RowKit
attribute [local go_sem] Oper.semAt_some

/-- The parts of a stream, and what it says. -/
def dNl (s : ByteArray) : Nat := w4 s (9 + bAt s 4)
def dNg (s : ByteArray) : Nat := w4 s (13 + bAt s 4)
def dNm (s : ByteArray) : ByteArray := s.extract 5 (5 + bAt s 4)
def dSt (s : ByteArray) : Int := (w4 s (5 + bAt s 4) : Nat)
def dGs (s : ByteArray) : List (Int × Int) := dG s (17 + bAt s 4) (dNg s)
def dBs (s : ByteArray) : List Nat := dB s (17 + bAt s 4 + 8 * dNg s) (dNl s)
def decE (s : ByteArray) : Int :=
  if s.size < 5 then 29 else if (s.extract 0 4).toList == [84, 73, 68, 69] then
    (if s.size < 17 + bAt s 4 then 29 else if s.size < 17 + bAt s 4 + 8 * dNg s + 4 * dNl s then 29 else if 17 + bAt s 4 + 8 * dNg s + 4 * dNl s < s.size then 2
      else bodE (dNm s) (dSt s) s (17 + bAt s 4) (17 + bAt s 4 + 8 * dNg s) (dNg s) (dNl s)) else 1

/-- A record that is read, or none and an error. -/
def Decd (s : ByteArray) (w : World) (e : Ending) (w' : World) : Prop := Below w.heap.size w w' ∧
  ((decE s = 0 ∧ ∃ LV GV, e = .returned (.tuple #[.agg #[.string (dNm s), .int .i64 (dSt s), LV, GV], .int .i64 0]) ∧ Rd w' w'.heap.size LV (dBs s).length (flc (dBs s)) ∧ Rd w' w'.heap.size GV (dGs s).length (spc (dGs s))) ∨
   (decE s ≠ 0 ∧ e = .returned (.tuple #[.agg #[.string ⟨#[]⟩, .int .i64 0, .slice none 0 0, .slice none 0 0], .int .i64 (decE s)])))

/-- The same, and the levels' row is nil or has an address. -/
def DecdF (s : ByteArray) (w : World) (e : Ending) (w' : World) : Prop := Below w.heap.size w w' ∧
  ((decE s = 0 ∧ ∃ LV GV, e = .returned (.tuple #[.agg #[.string (dNm s), .int .i64 (dSt s), LV, GV], .int .i64 0]) ∧ Rd w' w'.heap.size LV (dBs s).length (flc (dBs s)) ∧ Rd w' w'.heap.size GV (dGs s).length (spc (dGs s)) ∧ Full LV) ∨
   (decE s ≠ 0 ∧ e = .returned (.tuple #[.agg #[.string ⟨#[]⟩, .int .i64 0, .slice none 0 0, .slice none 0 0], .int .i64 (decE s)])))
theorem Decd.bad {s : ByteArray} {w w' : World} {e : Ending} (h : Decd s w e w') (h0 : decE s ≠ 0) : DecdF s w e w' := by
  obtain ⟨hb, ⟨h1, -⟩ | h⟩ := h
  · exact absurd h1 h0
  · exact ⟨hb, .inr h⟩

theorem bytes_of (s : ByteArray) (W : World) (b off : Nat) (h : ∀ i, i < s.size → W.cell? ⟨b, off + i, none⟩ = some (.int .u8 (bAt s i : Int))) : Lib.Bytes W b off s := by
  intro i hi
  rw [h i hi]
  have h1 := strCells_at s i hi
  have h2 : (Lib.strCells s)[i]? = some (.int .u8 (s[i].toNat : Int)) := by
    unfold Lib.strCells
    have h' : i < s.data.toList.length := by simpa using hi
    simp [List.getElem?_map, List.getElem?_eq_getElem h']
    rfl
  exact h1.symm.trans h2

set_option maxRecDepth 1000000 in
set_option maxHeartbeats 8000000 in
theorem decode_s5 (s : ByteArray) (A : Option Addr) (c : Nat) (w : World) (hs : s.size ≤ 500) (h5 : s.size < 5) :
    Calls Tryz.prog 17 #[.slice A s.size c] w (Decd s w) := by
  have HE := hd (show decE s = 29 by unfold decE; rw [if_pos h5])
  have hc1 : ¬ (4000000 : Int) < (s.size : Int) := by omega
  have hc2 : (s.size : Int) < 5 := by omega
  clear hs h5
  obtain ⟨W0, hW0⟩ : ∃ W0, W0 = w.alloc (.cells #[.string ⟨#[]⟩, .int .i64 0, .slice none 0 0, .slice none 0 0] 35) := ⟨_, rfl⟩
  have HR := hd (show W0.heap[w.heap.size]? = some (.cells #[.string ⟨#[]⟩, .int .i64 0, .slice none 0 0, .slice none 0 0] 35 (0, 0)) by rw [hW0]; exact blk_new _ _ _)
  have HB := hd (show Below w.heap.size w W0 by rw [hW0]; exact (Below.refl _ w).alloc (Nat.le_refl _) _)
  go_enter Tryz.func17, Tryz.ntmps17
  have r0 := blk_cell HR.out 0
  have r1 := blk_cell HR.out 1
  have r2 := blk_cell HR.out 2
  have r3 := blk_cell HR.out 3
  have y0 := blk_frozen HR.out 0
  have y1 := blk_frozen HR.out 1
  have y2 := blk_frozen HR.out 2
  have y3 := blk_frozen HR.out 3
  simp at r0 r1 r2 r3
  go_wp2_with fail
  rw [← hW0]
  clear hW0
  have z0 := r0
  have z1 := r1
  have z2 := r2
  have z3 := r3
  clear r0 r1 r2 r3 y0 y1 y2 y3
  exact bodyPost_ret (v := .tuple #[.agg #[.string ⟨#[]⟩, .int .i64 0, .slice none 0 0, .slice none 0 0], .int .i64 29]) (by simp [results, Tryz.results17, go_sem, z0, z1, z2, z3]) rfl ⟨HB.out, .inr ⟨by rw [HE.out]; decide, by rw [HE.out]⟩⟩

set_option maxRecDepth 1000000 in
set_option maxHeartbeats 8000000 in
theorem decode_magic (s : ByteArray) (A : Option Addr) (c : Nat) (w : World) (h : Rd w w.heap.size (.slice A s.size c) s.size (Lib.strCells s)) (hs : s.size ≤ 500) (h5 : ¬ s.size < 5) (hm : ((s.extract 0 4).toList == [84, 73, 68, 69]) = false) :
    Calls Tryz.prog 17 #[.slice A s.size c] w (Decd s w) := by
  have HE := hd (show decE s = 1 by unfold decE; rw [if_neg h5, if_neg (by rw [hm]; decide)])
  have hc1 : ¬ (4000000 : Int) < (s.size : Int) := by omega
  have hc2 : ¬ (s.size : Int) < 5 := by omega
  obtain ⟨A', c', e', hcc, hcm, hx⟩ := h
  cases e'
  obtain ⟨b, off, rfl, hbb, hcell⟩ := hx (by omega)
  unfold maxLen at hcm
  have HCA := hd (show ∀ i, i < s.size → w.cell? ⟨b, off + i, none⟩ = some (.int .u8 (bAt s i : Int)) from fun i hi => (hcell i (by rw [Lib.strCells_length]; exact hi)).trans (strCells_at s i hi))
  clear hcell hx
  obtain ⟨W0, hW0⟩ : ∃ W0, W0 = w.alloc (.cells #[.string ⟨#[]⟩, .int .i64 0, .slice none 0 0, .slice none 0 0] 35) := ⟨_, rfl⟩
  have HR := hd (show W0.heap[w.heap.size]? = some (.cells #[.string ⟨#[]⟩, .int .i64 0, .slice none 0 0, .slice none 0 0] 35 (0, 0)) by rw [hW0]; exact blk_new _ _ _)
  have HB := hd (show Below w.heap.size w W0 by rw [hW0]; exact (Below.refl _ w).alloc (Nat.le_refl _) _)
  have HBY := hd (show Lib.Bytes W0 b off s from bytes_of s W0 b off (fun i hi => (HB.out.cell (p := ⟨b, off + i, none⟩) hbb).trans (HCA.out i hi)))
  have hcv := Lib.run_convert_window (P := Tryz.prog) W0 55 5 9 Tryz.underlying55 Tryz.underlying5 Tryz.underlying9 b off s HBY.out 0 4 c (by omega)
  rw [Nat.add_zero, Nat.zero_add, hW0] at hcv
  have hc4 : 4 ≤ c := by omega
  go_enter Tryz.func17, Tryz.ntmps17
  have r0 := blk_cell HR.out 0
  have r1 := blk_cell HR.out 1
  have r2 := blk_cell HR.out 2
  have r3 := blk_cell HR.out 3
  have y0 := blk_frozen HR.out 0
  have y1 := blk_frozen HR.out 1
  have y2 := blk_frozen HR.out 2
  have y3 := blk_frozen HR.out 3
  simp at r0 r1 r2 r3
  go_wp2_with fail
  rw [← hW0]
  clear hW0
  have z0 := r0
  have z1 := r1
  have z2 := r2
  have z3 := r3
  clear r0 r1 r2 r3 y0 y1 y2 y3
  exact bodyPost_ret (v := .tuple #[.agg #[.string ⟨#[]⟩, .int .i64 0, .slice none 0 0, .slice none 0 0], .int .i64 1]) (by simp [results, Tryz.results17, go_sem, z0, z1, z2, z3]) rfl ⟨HB.out, .inr ⟨by rw [HE.out]; decide, by rw [HE.out]⟩⟩
set_option maxRecDepth 1000000 in
set_option maxHeartbeats 8000000 in
theorem decode_torn (s : ByteArray) (A : Option Addr) (c : Nat) (w : World) (h : Rd w w.heap.size (.slice A s.size c) s.size (Lib.strCells s)) (hs : s.size ≤ 500) (h5 : ¬ s.size < 5) (hm : ((s.extract 0 4).toList == [84, 73, 68, 69]) = true) (h17 : s.size < 17 + bAt s 4) :
    Calls Tryz.prog 17 #[.slice A s.size c] w (Decd s w) := by
  have HE := hd (show decE s = 29 by unfold decE; rw [if_neg h5, if_pos hm, if_pos h17])
  have hc1 : ¬ (4000000 : Int) < (s.size : Int) := by omega
  have hc2 : ¬ (s.size : Int) < 5 := by omega
  obtain ⟨A', c', e', hcc, hcm, hx⟩ := h
  cases e'
  obtain ⟨b, off, rfl, hbb, hcell⟩ := hx (by omega)
  unfold maxLen at hcm
  have HCA := hd (show ∀ i, i < s.size → w.cell? ⟨b, off + i, none⟩ = some (.int .u8 (bAt s i : Int)) from fun i hi => (hcell i (by rw [Lib.strCells_length]; exact hi)).trans (strCells_at s i hi))
  clear hcell hx
  obtain ⟨W0, hW0⟩ : ∃ W0, W0 = w.alloc (.cells #[.string ⟨#[]⟩, .int .i64 0, .slice none 0 0, .slice none 0 0] 35) := ⟨_, rfl⟩
  have HR := hd (show W0.heap[w.heap.size]? = some (.cells #[.string ⟨#[]⟩, .int .i64 0, .slice none 0 0, .slice none 0 0] 35 (0, 0)) by rw [hW0]; exact blk_new _ _ _)
  have HB := hd (show Below w.heap.size w W0 by rw [hW0]; exact (Below.refl _ w).alloc (Nat.le_refl _) _)
  have HBY := hd (show Lib.Bytes W0 b off s from bytes_of s W0 b off (fun i hi => (HB.out.cell (p := ⟨b, off + i, none⟩) hbb).trans (HCA.out i hi)))
  have hcv := Lib.run_convert_window (P := Tryz.prog) W0 55 5 9 Tryz.underlying55 Tryz.underlying5 Tryz.underlying9 b off s HBY.out 0 4 c (by omega)
  rw [Nat.add_zero, Nat.zero_add, hW0] at hcv
  have hl4 : (w.alloc (.cells #[.string ⟨#[]⟩, .int .i64 0, .slice none 0 0, .slice none 0 0] 35)).cell? ⟨b, off + 4, none⟩ = some (.int .u8 (bAt s 4 : Int)) := by rw [← hW0]; exact (HB.out.cell (p := ⟨b, off + 4, none⟩) hbb).trans (HCA.out 4 (by omega))
  have hbn := bAt_lt s 4
  generalize bAt s 4 = n at *
  have hrn : ((s.size - 5 : Nat) : Int) < (n : Int) + 12 := by omega
  have hrn2 : (s.size : Int) - 5 < (n : Int) + 12 := by omega
  have hrn3 : s.size - 5 < n + 12 := by omega
  have hc4 : 4 ≤ c := by omega
  have hc5 : 5 ≤ c := by omega
  have hc6 : 5 ≤ s.size := by omega
  have hc7 : 4 < s.size := by omega
  clear hs h5 h17
  go_enter Tryz.func17, Tryz.ntmps17
  have r0 := blk_cell HR.out 0
  have r1 := blk_cell HR.out 1
  have r2 := blk_cell HR.out 2
  have r3 := blk_cell HR.out 3
  have y0 := blk_frozen HR.out 0
  have y1 := blk_frozen HR.out 1
  have y2 := blk_frozen HR.out 2
  have y3 := blk_frozen HR.out 3
  simp at r0 r1 r2 r3
  go_wp2_with fail
  all_goals
    rw [← hW0]
    have z0 := r0
    have z1 := r1
    have z2 := r2
    have z3 := r3
    clear r0 r1 r2 r3 y0 y1 y2 y3
    exact bodyPost_ret (v := .tuple #[.agg #[.string ⟨#[]⟩, .int .i64 0, .slice none 0 0, .slice none 0 0], .int .i64 29]) (by simp [results, Tryz.results17, go_sem, z0, z1, z2, z3]) rfl ⟨HB.out, .inr ⟨by rw [HE.out]; decide, by rw [HE.out]⟩⟩
end Go.Proofs.YtkgkpcmokmhakaaGreatDoor

namespace Go.Proofs.YtkgkpcmokmhakaaGreatDoor
open Go.RowKit

theorem fours_at : ∀ (ws : List Nat) (i j : Nat), i < ws.length → j < 4 → (fours ws)[4 * i + j]? = (four (ws.getD i 0))[j]?
  | [], i, j, h, _ => absurd h (by simp)
  | x :: ws, 0, j, _, hj => by
    have e : fours (x :: ws) = four x ++ fours ws := by simp [fours]
    have hl : (four x).length = 4 := rfl
    rw [e, List.getElem?_append_left (by rw [hl]; omega)]
    simp
  | x :: ws, i + 1, j, h, hj => by
    have e : fours (x :: ws) = four x ++ fours ws := by simp [fours]
    have hl : (four x).length = 4 := rfl
    have ih := fours_at ws i j (by simpa using h) hj
    rw [e, List.getElem?_append_right (by rw [hl]; omega), hl, show 4 * (i + 1) + j - 4 = 4 * i + j by omega, ih]
    simp
/-- The words of a stream behind its name. -/
def allW (st : Int) (bs : List Nat) (gs : List (Int × Int)) : List Nat := [st.toNat, bs.length, gs.length] ++ encG gs ++ encL bs
def preA (nm : ByteArray) : List Value := [.int .u8 84, .int .u8 73, .int .u8 68, .int .u8 69] ++ [.int .u8 (nm.size : Int)] ++ Lib.strCells nm
theorem preA_len (nm : ByteArray) : (preA nm).length = 5 + nm.size := by unfold preA; simp [Lib.strCells_length]; omega
theorem encV_all (nm : ByteArray) (st : Int) (bs : List Nat) (gs : List (Int × Int)) : encV nm st bs gs = preA nm ++ fours (allW st bs gs) := by
  unfold encV encH allW preA
  rw [fours_app, fours_app]
  simp only [List.append_assoc]
theorem encV_size (nm : ByteArray) (st : Int) (bs : List Nat) (gs : List (Int × Int)) : (encV nm st bs gs).length = 17 + nm.size + 8 * gs.length + 4 * bs.length := by
  rw [encV_all, List.length_append, preA_len, fours_len]
  unfold allW
  simp only [List.length_append, List.length_cons, List.length_nil, encG_len, encL, List.length_map]
  omega
/-- The first bytes are those of a record's stream. -/
def Agr (s : ByteArray) (nm : ByteArray) (st : Int) (bs : List Nat) (gs : List (Int × Int)) (k : Nat) : Prop := ∀ i, i < k → (encV nm st bs gs)[i]? = some (.int .u8 (bAt s i : Int))
section
variable {s nm : ByteArray} {st : Int} {bs : List Nat} {gs : List (Int × Int)} {k : Nat}
theorem agr_word (h : Agr s nm st bs gs k) (i : Nat) (hi : i < (allW st bs gs).length) (hk : 5 + nm.size + 4 * i + 4 ≤ k) (hx : (allW st bs gs).getD i 0 < 4294967296) : w4 s (5 + nm.size + 4 * i) = (allW st bs gs).getD i 0 := by
  have hb : ∀ j, j < 4 → (four ((allW st bs gs).getD i 0))[j]? = some (.int .u8 (bAt s (5 + nm.size + 4 * i + j) : Int)) := fun j hj => by
    have h1 := h (5 + nm.size + 4 * i + j) (by omega)
    rw [encV_all, List.getElem?_append_right (by rw [preA_len]; omega), preA_len, show 5 + nm.size + 4 * i + j - (5 + nm.size) = 4 * i + j by omega, fours_at _ i j hi hj] at h1
    exact h1
  generalize (allW st bs gs).getD i 0 = x at *
  have b0 := hb 0 (by omega)
  have b1 := hb 1 (by omega)
  have b2 := hb 2 (by omega)
  have b3 := hb 3 (by omega)
  simp only [four, List.getElem?_cons_zero, List.getElem?_cons_succ, Option.some.injEq, Value.int.injEq, true_and, Nat.add_zero] at b0 b1 b2 b3
  unfold w4
  omega
theorem agr_head (h : Agr s nm st bs gs k) (hk : 5 + nm.size ≤ k) (hs : k ≤ s.size) : ((s.extract 0 4).toList == [84, 73, 68, 69]) = true ∧ bAt s 4 = nm.size ∧ s.extract 5 (5 + nm.size) = nm := by
  have hl : s.data.toList.length = s.size := by simp
  have hat : ∀ i, i < 5 + nm.size → (preA nm)[i]? = some (.int .u8 (bAt s i : Int)) := fun i hi => by
    have h1 := h i (by omega)
    rw [encV_all, List.getElem?_append_left (by rw [preA_len]; omega)] at h1
    exact h1
  have hb : ∀ i (v : Int), i < 5 + nm.size → (preA nm)[i]? = some (.int .u8 v) → (bAt s i : Int) = v := fun i v hi hv => by
    have h1 := hat i hi
    rw [hv] at h1
    injection h1 with h1
    injection h1 with _ h1
    exact h1.symm
  have c0 := hb 0 84 (by omega) rfl
  have c1 := hb 1 73 (by omega) rfl
  have c2 := hb 2 68 (by omega) rfl
  have c3 := hb 3 69 (by omega) rfl
  have c4 := hb 4 (nm.size : Int) (by omega) rfl
  have hdt : ∀ i, i < s.size → s.data.toList[i]? = some (UInt8.ofNat (bAt s i)) := fun i hi => by
    have h1 : i < s.data.toList.length := by omega
    have h2 : bAt s i = (s.data.toList[i]'h1).toNat := by
      unfold bAt
      rw [List.getD_eq_getElem?_getD, List.getElem?_eq_getElem h1]; rfl
    rw [List.getElem?_eq_getElem h1, h2]
    simp
  refine ⟨?_, by omega, ?_⟩
  · rw [beq_iff_eq, ByteArray.toList_eq, Lib.extract_data]
    apply List.ext_getElem?
    intro i
    by_cases hi : i < 4
    · rw [List.getElem?_take_of_lt (by omega), List.getElem?_drop, Nat.zero_add, hdt i (by omega)]
      have : i = 0 ∨ i = 1 ∨ i = 2 ∨ i = 3 := by omega
      rcases this with rfl | rfl | rfl | rfl
      · rw [show bAt s 0 = 84 by omega]; rfl
      · rw [show bAt s 1 = 73 by omega]; rfl
      · rw [show bAt s 2 = 68 by omega]; rfl
      · rw [show bAt s 3 = 69 by omega]; rfl
    · rw [List.getElem?_eq_none (by simp; omega), List.getElem?_eq_none (by simp; omega)]
  · have hnl : nm.data.toList.length = nm.size := by simp
    have e : (s.extract 5 (5 + nm.size)).data.toList = nm.data.toList := by
      rw [Lib.extract_data]
      apply List.ext_getElem?
      intro i
      by_cases hi : i < nm.size
      · rw [List.getElem?_take_of_lt (by omega), List.getElem?_drop, hdt (5 + i) (by omega)]
        have h1 := hat (5 + i) (by omega)
        have hpre : (preA nm)[5 + i]? = (Lib.strCells nm)[i]? := by
          unfold preA
          rw [List.getElem?_append_right (by simp)]
          simp
        rw [hpre, strCells_at nm i hi] at h1
        injection h1 with h1
        injection h1 with _ h1
        have h2 : bAt nm i = (nm.data.toList[i]'(by omega)).toNat := by
          unfold bAt
          rw [List.getD_eq_getElem?_getD, List.getElem?_eq_getElem (by omega)]; rfl
        rw [show bAt s (5 + i) = bAt nm i by omega, h2, List.getElem?_eq_getElem (by omega)]
        simp
      · rw [List.getElem?_eq_none (by simp; omega), List.getElem?_eq_none (by omega)]
    cases hq : s.extract 5 (5 + nm.size) with
    | mk d1 => cases nm with
      | mk d2 => rw [hq] at e; exact congrArg ByteArray.mk (Array.toList_inj.1 e)
/-- What a stream is read as, whose head is a record's. -/
theorem agr_nums (h : Agr s nm st bs gs k) (hk : 17 + nm.size ≤ k) (hs : k ≤ s.size) (h1 : 0 ≤ st ∧ st ≤ 100000) (h2 : bs.length ≤ 100000) (h3 : gs.length ≤ 100000) :
    bAt s 4 = nm.size ∧ dNl s = bs.length ∧ dNg s = gs.length ∧ dNm s = nm ∧ dSt s = st := by
  obtain ⟨-, a2, a3⟩ := agr_head h (by omega) hs
  have hlen : 3 ≤ (allW st bs gs).length := by unfold allW; simp
  have w0 := agr_word h 0 (by omega) (by omega) (by show st.toNat < _; omega)
  have w1 := agr_word h 1 (by omega) (by omega) (by show bs.length < _; omega)
  have w2 := agr_word h 2 (by omega) (by omega) (by show gs.length < _; omega)
  have w0 : w4 s (5 + nm.size) = st.toNat := w0
  have w1 : w4 s (5 + nm.size + 4) = bs.length := w1
  have w2 : w4 s (5 + nm.size + 8) = gs.length := w2
  refine ⟨a2, ?_, ?_, ?_, ?_⟩
  · unfold dNl; rw [a2, show 9 + nm.size = 5 + nm.size + 4 by omega]; exact w1
  · unfold dNg; rw [a2, show 13 + nm.size = 5 + nm.size + 8 by omega]; exact w2
  · unfold dNm; rw [a2]; exact a3
  · unfold dSt; rw [a2, w0]; omega
end
end Go.Proofs.YtkgkpcmokmhakaaGreatDoor

namespace Go.Proofs.YtkgkpcmokmhakaaGreatDoor
open Go.RowKit

theorem encG_at : ∀ (gs : List (Int × Int)) (i : Nat), i < gs.length → (encG gs).getD (2 * i) 0 = (gs.getD i (0, 0)).1.toNat ∧ (encG gs).getD (2 * i + 1) 0 = (gs.getD i (0, 0)).2.toNat
  | [], i, h => absurd h (by simp)
  | g :: gs, 0, _ => by constructor <;> simp [encG]
  | g :: gs, i + 1, h => by
    obtain ⟨h1, h2⟩ := encG_at gs i (by simpa using h)
    have e : encG (g :: gs) = [g.1.toNat, g.2.toNat] ++ encG gs := by simp [encG]
    rw [e]
    have a1 : ([g.1.toNat, g.2.toNat] ++ encG gs).getD (2 * (i + 1)) 0 = (encG gs).getD (2 * i) 0 := by
      rw [List.getD_eq_getElem?_getD, List.getD_eq_getElem?_getD, List.getElem?_append_right (by simp; omega)]
      simp only [List.length_cons, List.length_nil]
      rw [show 2 * (i + 1) - (0 + 1 + 1) = 2 * i by omega]
    have a2 : ([g.1.toNat, g.2.toNat] ++ encG gs).getD (2 * (i + 1) + 1) 0 = (encG gs).getD (2 * i + 1) 0 := by
      rw [List.getD_eq_getElem?_getD, List.getD_eq_getElem?_getD, List.getElem?_append_right (by simp; omega)]
      simp only [List.length_cons, List.length_nil]
      rw [show 2 * (i + 1) + 1 - (0 + 1 + 1) = 2 * i + 1 by omega]
    rw [a1, a2, h1, h2]
    simp
section
variable {s nm : ByteArray} {st : Int} {bs : List Nat} {gs : List (Int × Int)} {k : Nat}
theorem allW_gap (st : Int) (bs : List Nat) (gs : List (Int × Int)) (j : Nat) (h : j < 2 * gs.length) : (allW st bs gs).getD (3 + j) 0 = (encG gs).getD j 0 := by
  unfold allW
  rw [List.getD_eq_getElem?_getD, List.getD_eq_getElem?_getD, List.append_assoc, List.getElem?_append_right (by simp), List.getElem?_append_left (by simp [encG_len]; omega)]
  simp
theorem allW_lev (st : Int) (bs : List Nat) (gs : List (Int × Int)) (j : Nat) : (allW st bs gs).getD (3 + 2 * gs.length + j) 0 = (encL bs).getD j 0 := by
  unfold allW
  have hl : ([st.toNat, bs.length, gs.length] ++ encG gs).length = 3 + 2 * gs.length := by simp [encG_len]; omega
  rw [List.getD_eq_getElem?_getD, List.getD_eq_getElem?_getD, List.getElem?_append_right (by omega), hl, show 3 + 2 * gs.length + j - (3 + 2 * gs.length) = j by omega]
theorem allW_len (st : Int) (bs : List Nat) (gs : List (Int × Int)) : (allW st bs gs).length = 3 + 2 * gs.length + bs.length := by
  unfold allW
  simp only [List.length_append, List.length_cons, List.length_nil, encG_len, encL, List.length_map]
theorem encL_at (bs : List Nat) (i : Nat) (h : i < bs.length) : (encL bs).getD i 0 = if bs.getD i 0 = 2147483648 then 0 else bs.getD i 0 := by simp [encL, h]
/-- The gaps and the levels that are read. -/
theorem agr_body (h : Agr s nm st bs gs (17 + nm.size + 8 * gs.length + 4 * bs.length)) (hs : 17 + nm.size + 8 * gs.length + 4 * bs.length ≤ s.size) (V : Valid nm st bs gs) (h32 : ∀ j, j < bs.length → bs.getD j 0 < 4294967296) :
    dGs s = gs ∧ dBs s = encL bs := by
  have hsp := (chkSpans_ok gs V.spans)
  obtain ⟨a1, a2, a3, -, -⟩ := agr_nums h (by omega) hs V.start (Nat.le_trans V.most (by omega)) (Nat.le_trans hsp.1 (by omega))
  have hW := allW_len st bs gs
  constructor
  · unfold dGs dG
    rw [a1, a3]
    apply ext_getD _ _ (0, 0)
    · simp
    · intro i hi
      have hi : i < gs.length := by simpa using hi
      obtain ⟨g1, g2⟩ := encG_at gs i hi
      have hb := hsp.2.1 _ (getD_mem gs i hi)
      have e1 := allW_gap st bs gs (2 * i) (by omega)
      have e2 := allW_gap st bs gs (2 * i + 1) (by omega)
      rw [g1] at e1
      rw [g2] at e2
      have w1 := agr_word h (3 + 2 * i) (by omega) (by omega) (by rw [e1]; omega)
      have w2 := agr_word h (3 + (2 * i + 1)) (by omega) (by omega) (by rw [e2]; omega)
      rw [e1] at w1
      rw [e2] at w2
      have hg : ((List.range gs.length).map fun i : Nat => ((w4 s (17 + nm.size + 8 * i) : Int), (w4 s (17 + nm.size + 8 * i + 4) : Int))).getD i (0, 0) = ((w4 s (17 + nm.size + 8 * i) : Int), (w4 s (17 + nm.size + 8 * i + 4) : Int)) := by simp [hi]
      rw [hg, show 17 + nm.size + 8 * i = 5 + nm.size + 4 * (3 + 2 * i) by omega, w1, show 5 + nm.size + 4 * (3 + 2 * i) + 4 = 5 + nm.size + 4 * (3 + (2 * i + 1)) by omega, w2]
      refine Prod.ext ?_ ?_
      · show (((gs.getD i (0, 0)).1.toNat : Nat) : Int) = _
        omega
      · show (((gs.getD i (0, 0)).2.toNat : Nat) : Int) = _
        omega
  · unfold dBs dB
    rw [a1, a2, a3]
    apply ext_getD _ _ 0
    · simp [encL]
    · intro i hi
      have hi : i < bs.length := by simpa using hi
      have e1 := allW_lev st bs gs i
      have hx : (encL bs).getD i 0 < 4294967296 := by rw [encL_at bs i hi]; have := h32 i hi; split <;> omega
      have w1 := agr_word h (3 + 2 * gs.length + i) (by omega) (by omega) (by rw [e1]; exact hx)
      rw [e1] at w1
      have hg : ((List.range bs.length).map fun i : Nat => w4 s (17 + nm.size + 8 * gs.length + 4 * i)).getD i 0 = w4 s (17 + nm.size + 8 * gs.length + 4 * i) := by simp [hi]
      rw [hg, show 17 + nm.size + 8 * gs.length + 4 * i = 5 + nm.size + 4 * (3 + 2 * gs.length + i) by omega, w1]
theorem encL_ok (V : Valid nm st bs gs) (hl : ∀ i, i < bs.length → chkLev (bs.getD i 0) = 0) : chkRec nm st (encL bs) gs = 0 := by
  have hel : (encL bs).length = bs.length := by simp [encL]
  have r1 : rec1 nm st (encL bs).length = 0 := by
    have h1 : unl (nameB nm) 8 = 0 := by rw [V.name]; rfl
    have h2 : rng st 0 100000 = 0 := if_pos V.start
    have h3 : most (((encL bs).length : Nat) : Int) 4096 = 0 := if_pos (by rw [hel]; have := V.most; omega)
    unfold rec1
    rw [h1, h2, h3]; rfl
  have h1 : fst0 (levErr (encL bs)) = 0 := fst0_all _ (fun j hj => by
    have hj : j < (encL bs).length := by simpa [levErr] using hj
    rw [levErr_at _ j hj, encL_at bs j (by omega)]
    split
    · exact lev_zeroK
    · exact hl j (by omega))
  have h2 := rec2_fine (bs := encL bs) h1 V.spans (fun j hj => by rw [hel]; exact V.ends j hj)
  have h3 : silB (encL bs) gs = true := by
    refine (silB_true _ _ (fun x hx => ?_)).2 ?_
    · obtain ⟨j, hj, rfl⟩ := List.mem_iff_getElem.1 hx
      have := V.ends j hj
      rw [hel]
      simpa [hj] using this
    · intro j hj i hi1 hi2
      have he := V.ends j hj
      rw [encL_at bs i (by omega)]
      split
      · decide +kernel
      · exact V.silent j hj i hi1 hi2
  unfold chkRec
  rw [if_pos r1, if_pos h2, h3]; rfl
theorem encL_min (bs : List Nat) : 2147483648 ∉ encL bs := fun h => by
  obtain ⟨b, -, hb⟩ := List.mem_map.1 h
  by_cases e : b = 2147483648
  · rw [if_pos e] at hb; omega
  · rw [if_neg e] at hb; exact e hb
theorem encL_same (hl : ∀ i, i < bs.length → chkLev (bs.getD i 0) = 0) : sameF feqL 0 (encL bs) bs = true :=
  sameF_yes feqL 0 _ _ (by simp [encL]) fun j hj => by
    have hj : j < bs.length := by simpa [encL] using hj
    rw [encL_at bs j hj]
    split
    · rename_i e; rw [e]; decide +kernel
    · exact feq_self (hl j hj)
/-- A record's stream is read as the record. -/
theorem stream_read (V : Valid nm st bs gs) (hl : ∀ i, i < bs.length → chkLev (bs.getD i 0) = 0) (h32 : ∀ j, j < bs.length → bs.getD j 0 < 4294967296) (h : Lib.strCells s = encV nm st bs gs) :
    decE s = 0 ∧ dNm s = nm ∧ dSt s = st ∧ dGs s = gs ∧ dBs s = encL bs := by
  have hsz : s.size = 17 + nm.size + 8 * gs.length + 4 * bs.length := by rw [← encV_size, ← h, Lib.strCells_length]
  have hA : Agr s nm st bs gs (17 + nm.size + 8 * gs.length + 4 * bs.length) := fun i hi => by rw [← h]; exact strCells_at s i (by omega)
  have hsp := (chkSpans_ok gs V.spans)
  obtain ⟨a1, a2, a3, a4, a5⟩ := agr_nums hA (by omega) (by omega) V.start (Nat.le_trans V.most (by omega)) (Nat.le_trans hsp.1 (by omega))
  obtain ⟨b1, b2⟩ := agr_body hA (by omega) V h32
  obtain ⟨c1, -, -⟩ := agr_head hA (by omega) (by omega)
  refine ⟨?_, a4, a5, b1, b2⟩
  unfold decE
  rw [if_neg (by omega), if_pos c1, a1, a2, a3, if_neg (by omega), if_neg (by omega), if_neg (by omega)]
  unfold bodE
  have e1 : dB s (17 + nm.size + 8 * gs.length) bs.length = encL bs := by have := b2; unfold dBs at this; rw [a1, a2, a3] at this; exact this
  have e2 : dG s (17 + nm.size) gs.length = gs := by have := b1; unfold dGs at this; rw [a1, a3] at this; exact this
  rw [e1, e2, if_neg (encL_min bs), a4, a5]
  exact encL_ok V hl
end
end Go.Proofs.YtkgkpcmokmhakaaGreatDoor
