/-
  Integers as words: the reference's Number and Signed. Conditions: at most 300 bytes.
  Integers as words: the reference's Signed and Text. Conditions: written at each.
  The reference's Print: every record with valid levels, at most 4096 of them.
  Parts of a string between a byte: the reference's Split. Condition: at most 1000 bytes.
  Plain words: the library's split at one byte is the parts of spl.
  The program's Print: every record; the text is the reference's. Condition: the table of powers of ten is laid.
  gauge.readRecord, over what its heading and its levels are read as. Conditions: written at each.
  Lines and words: strings.CutSuffix of a line feed, and the words of a line. Conditions: written at each.
  The words of a line: texts.Read. Condition: at most 100000 bytes.
-/
import Derived.Test.YtkgkpcmokmhakaaGreatDoorProg
import Derived.Test.YtkgkpcmokmhakaaGreatDoorS2
import Derived.Test.YtkgkpcmokmhakaaGreatDoorMI
import Derived.Laws.BytesArg
import Derived.Lib.ItoaMem
import Derived.Test.YtkgkpcmokmhakaaGreatDoorOpm
import Derived.Test.YtkgkpcmokmhakaaGreatDoorT7
import Derived.Test.YtkgkpcmokmhakaaGreatDoorMD
import Derived.Lib.Split
import Derived.Test.YtkgkpcmokmhakaaGreatDoorMQ
import Derived.Lib.SmallJoins
import Derived.Test.YtkgkpcmokmhakaaGreatDoorKB
import Derived.Maps.AppendAt
import Derived.Test.YtkgkpcmokmhakaaGreatDoorMC
import Derived.Test.YtkgkpcmokmhakaaGreatDoorShelfB
import Derived.Lib.SplitLaws

namespace Go.Proofs.YtkgkpcmokmhakaaGreatDoor
open Go.RowKit
attribute [local go_sem] Oper.semAt_some

theorem bAt_get (s : ByteArray) (i : Nat) (h : i < s.size) : (s[i]'h).toNat = bAt s i := by
  have h' : i < s.data.toList.length := by simpa using h
  unfold bAt
  rw [List.getD_eq_getElem?_getD, List.getElem?_eq_getElem h', Option.getD_some]
  congr 1
/-- The number that the first bytes make. -/
def digN (s : ByteArray) : Nat → Nat
  | 0 => 0
  | k + 1 => 10 * digN s k + (bAt s k - 48)
def isDigB (c : Nat) : Bool := decide (48 ≤ c) && decide (c ≤ 57)
def digs (s : ByteArray) : Bool := (List.range s.size).all fun i => isDigB (bAt s i)
/-- What a word without a sign is. -/
def numB (s : ByteArray) : Option Nat :=
  if s.size = 0 ∨ 9 < s.size ∨ 1 < s.size ∧ bAt s 0 = 48 then none else if digs s then some (digN s s.size) else none
/-- What a word is. -/
def sgnB (s : ByteArray) : Option Int :=
  if 1 < s.size ∧ bAt s 0 = 45 then (match numB (s.extract 1 s.size) with | some n => if 0 < n then some (-(n : Int)) else none | none => none) else (numB s).map fun n => (n : Int)
theorem digN_lt (s : ByteArray) (h : ∀ i, i < s.size → isDigB (bAt s i) = true) : ∀ k, k ≤ s.size → digN s k < 10 ^ k
  | 0, _ => by simp [digN]
  | k + 1, hk => by
    have h1 := digN_lt s h k (by omega)
    have h2 := h k (by omega)
    unfold isDigB at h2
    simp only [Bool.and_eq_true, decide_eq_true_eq] at h2
    rw [digN, Nat.pow_succ]
    omega
theorem digN_bound (s : ByteArray) {k : Nat} (h : digN s k < 10 ^ k) (hk : k ≤ 9) : digN s k ≤ 999999999 := by
  have : (10 : Nat) ^ k ≤ 10 ^ 9 := Nat.pow_le_pow_right (by omega) hk
  omega

end Go.Proofs.YtkgkpcmokmhakaaGreatDoor

namespace Go.Proofs.YtkgkpcmokmhakaaGreatDoor
open Go.RowKit
attribute [local go_sem] Oper.semAt_some

theorem sgnB_neg {s : ByteArray} (h : 1 < s.size ∧ bAt s 0 = 45) : sgnB s = match numB (s.extract 1 s.size) with | some n => if 0 < n then some (-(n : Int)) else none | none => none := if_pos h
theorem sgnB_pos {s : ByteArray} (h : ¬ (1 < s.size ∧ bAt s 0 = 45)) : sgnB s = (numB s).map fun n => (n : Int) := if_neg h
theorem numB_bound (s : ByteArray) {n : Nat} (h : numB s = some n) : n ≤ 999999999 := by
  unfold numB at h
  split at h
  · cases h
  · rename_i c
    split at h
    · rename_i hd
      injection h with h
      subst h
      exact digN_bound s (digN_lt s (fun i hi => List.all_eq_true.1 hd i (by simpa using hi)) s.size (Nat.le_refl _)) (by omega)
    · cases h

end Go.Proofs.YtkgkpcmokmhakaaGreatDoor

namespace Go.Proofs.YtkgkpcmokmhakaaGreatDoor
open Go.RowKit
attribute [local go_sem] Oper.semAt_some

/-- The decimal text. -/
def itB (n : Int) : ByteArray := ⟨(Lib.itoa n).toArray⟩
/-- The text of a record's first ticks. -/
def txB (nm : ByteArray) (st : Int) (bs : List Nat) (gs : List (Int × Int)) : Nat → ByteArray
  | 0 => (⟨#[103, 97, 117, 103, 101, 32]⟩ : ByteArray) ++ nm ++ ⟨#[32]⟩ ++ itB st ++ ⟨#[10]⟩
  | k + 1 => if hasL gs k = true then txB nm st bs gs k ++ ⟨#[45, 10]⟩ else txB nm st bs gs k ++ itB (s16 (bs.getD k 0)) ++ ⟨#[10]⟩
end Go.Proofs.YtkgkpcmokmhakaaGreatDoor

namespace Go.Proofs.YtkgkpcmokmhakaaGreatDoor
open Go.RowKit
attribute [local go_sem] Oper.semAt_some

/-- Where the part begins that the first bytes leave open, and the parts ahead of it. -/
def frm (s : ByteArray) (c : Nat) : Nat → Nat
  | 0 => 0
  | k + 1 => if bAt s k = c then k + 1 else frm s c k
def prt (s : ByteArray) (c : Nat) : Nat → List ByteArray
  | 0 => []
  | k + 1 => if bAt s k = c then prt s c k ++ [s.extract (frm s c k) k] else prt s c k
/-- The parts of a string between a byte. -/
def spl (s : ByteArray) (c : Nat) : List ByteArray := prt s c s.size ++ [s.extract (frm s c s.size) s.size]
theorem frm_le (s : ByteArray) (c : Nat) : ∀ k, frm s c k ≤ k
  | 0 => Nat.le_refl _
  | k + 1 => by have := frm_le s c k; rw [frm]; split <;> omega
theorem prt_len (s : ByteArray) (c : Nat) : ∀ k, (prt s c k).length ≤ k
  | 0 => Nat.le_refl _
  | k + 1 => by
    have := prt_len s c k
    rw [prt]; split
    · rw [List.length_append]; simp; omega
    · omega
def stc1 (l : List ByteArray) : List Value := l.map Value.string
/-- A row of strings of the call's own, and all below it as it was. -/
structure OB (base : Nat) (w : World) (v : Value) (l : List ByteArray) (W : World) : Prop where
  the : W.ownsRow base 9 1 v l.length (stc1 l)
  bel : Below base w W
end Go.Proofs.YtkgkpcmokmhakaaGreatDoor

namespace Go.Proofs.YtkgkpcmokmhakaaGreatDoor

/-- A list cut at each byte c; t stays behind each part that is closed; acc is the part that is open. -/
def cutA (c : UInt8) (t : List UInt8) : List UInt8 → List UInt8 → List (List UInt8)
  | acc, [] => [acc]
  | acc, x :: l => if x = c then (acc ++ t) :: cutA c t [] l else cutA c t (acc ++ [x]) l
theorem cutA_miss (c : UInt8) (t : List UInt8) : ∀ (l acc : List UInt8), Lib.indexByte l c = -1 → cutA c t acc l = [acc ++ l]
  | [], acc, _ => by simp [cutA]
  | x :: l, acc, h => by
    unfold Lib.indexByte at h
    by_cases hx : x = c
    · simp [hx] at h
    · have hx' : (x == c) = false := by simp [hx]
      rw [hx'] at h
      have h2 : Lib.indexByte l c = -1 := by
        by_cases h3 : Lib.indexByte l c = -1
        · exact h3
        · have : -1 ≤ Lib.indexByte l c := by rw [← Lib.index_one]; exact Lib.index_ge l [c]
          simp [h3] at h
          omega
      rw [cutA, if_neg hx, cutA_miss c t l _ h2, List.append_assoc]; rfl
theorem cutA_hit (c : UInt8) (t : List UInt8) : ∀ (l acc : List UInt8) (i : Nat), Lib.indexByte l c = i → l[i]? = some c ∧ cutA c t acc l = (acc ++ l.take i ++ t) :: cutA c t [] (l.drop (i + 1))
  | [], acc, i, h => by simp [Lib.indexByte] at h
  | x :: l, acc, i, h => by
    unfold Lib.indexByte at h
    by_cases hx : x = c
    · simp [hx] at h
      have : i = 0 := by omega
      subst this
      exact ⟨by simp [hx], by rw [cutA, if_pos hx]; simp⟩
    · have hx' : (x == c) = false := by simp [hx]
      rw [hx'] at h
      have hg : -1 ≤ Lib.indexByte l c := by rw [← Lib.index_one]; exact Lib.index_ge l [c]
      have h3 : Lib.indexByte l c ≠ -1 := by
        intro h3; simp [h3] at h
      simp [h3] at h
      obtain ⟨j, rfl⟩ : ∃ j, i = j + 1 := ⟨i - 1, by omega⟩
      have h4 : Lib.indexByte l c = (j : Int) := by omega
      have ih := cutA_hit c t l (acc ++ [x]) j h4
      exact ⟨by simpa using ih.1, by rw [cutA, if_neg hx, ih.2]; simp⟩
/-- The library's split, at one byte, in goes as many as there are. -/
theorem splitK_cut (c : UInt8) (sv : Nat) (t : List UInt8) (ht : (sv = 0 ∧ t = []) ∨ (sv = 1 ∧ t = [c])) : ∀ (n : Nat) (l : List UInt8), l.length ≤ n → Lib.splitK [c] sv (Lib.count l [c]) l = cutA c t [] l
  | n, l, hn => by
    have hg : -1 ≤ Lib.indexByte l c := by rw [← Lib.index_one]; exact Lib.index_ge l [c]
    by_cases h : Lib.indexByte l c = -1
    · rw [Lib.count_miss (by rw [Lib.index_one]; exact h), cutA_miss c t l [] h]; rfl
    · obtain ⟨i, hi⟩ : ∃ i : Nat, Lib.indexByte l c = i := ⟨(Lib.indexByte l c).toNat, by omega⟩
      have hI : Lib.index l [c] = i := by rw [Lib.index_one]; exact hi
      have hc := cutA_hit c t l [] i hi
      obtain ⟨hlt, hget⟩ := List.getElem?_eq_some_iff.1 hc.1
      obtain ⟨m, rfl⟩ : ∃ m, n = m + 1 := ⟨n - 1, by omega⟩
      have ih := splitK_cut c sv t ht m (l.drop (i + 1)) (by rw [List.length_drop]; omega)
      have hm : ¬ (Lib.index l [c] == -1) = true := fun e => by have := beq_iff_eq.1 e; omega
      rw [Lib.count_hit (by simp) hI, Nat.add_comm 1, Lib.splitK, if_neg hm, hc.2, hI]
      rw [show ([c] : List UInt8).length = 1 from rfl, Int.toNat_natCast, ih]
      congr 1
      rcases ht with ⟨rfl, rfl⟩ | ⟨rfl, rfl⟩
      · simp
      · rw [List.take_add_one, hc.1]; simp
/-- The parts of spl as lists. -/
theorem prt_cut (s : ByteArray) (c : UInt8) : ∀ k, k ≤ s.size → cutA c [] [] s.data.toList = (prt s c.toNat k).map (·.data.toList) ++ cutA c [] ((s.data.toList.drop (frm s c.toNat k)).take (k - frm s c.toNat k)) (s.data.toList.drop k)
  | 0, _ => by simp [prt, frm]
  | k + 1, hk => by
    have hlt : k < s.size := hk
    have hL : k < s.data.toList.length := by simpa using hlt
    have hf := frm_le s c.toNat k
    have hb : bAt s k = (s.data.toList[k]'hL).toNat := by rw [← bAt_get s k hlt]; rfl
    rw [prt_cut s c k (by omega), List.drop_eq_getElem_cons hL, cutA, prt, frm]
    by_cases hq : s.data.toList[k]'hL = c
    · have hq2 : bAt s k = c.toNat := by rw [hb, hq]
      rw [if_pos hq, if_pos hq2, if_pos hq2]
      simp
    · have hq2 : bAt s k ≠ c.toNat := by rw [hb]; exact fun e => hq (UInt8.toNat_inj.1 e)
      rw [if_neg hq, if_neg hq2, if_neg hq2]
      have e : (s.data.toList.drop (frm s c.toNat k)).take (k + 1 - frm s c.toNat k) = (s.data.toList.drop (frm s c.toNat k)).take (k - frm s c.toNat k) ++ [s.data.toList[k]'hL] := by
        rw [show k + 1 - frm s c.toNat k = (k - frm s c.toNat k) + 1 by omega, List.take_add_one, List.getElem?_drop, show frm s c.toNat k + (k - frm s c.toNat k) = k by omega, List.getElem?_eq_getElem hL]; rfl
      rw [e]
theorem spl_cut (s : ByteArray) (c : UInt8) : (spl s c.toNat).map (·.data.toList) = cutA c [] [] s.data.toList := by
  have hl : s.data.toList.length = s.size := by simp
  have hd : s.data.toList.drop s.size = [] := List.drop_eq_nil_of_le (by omega)
  rw [prt_cut s c s.size (Nat.le_refl _), hd, cutA, spl, List.map_append]
  simp
theorem bytes_inj : ∀ {a b : List ByteArray}, a.map (·.data.toList) = b.map (·.data.toList) → a = b
  | [], [], _ => rfl
  | [], _ :: _, h => by simp at h
  | _ :: _, [], h => by simp at h
  | x :: a, y :: b, h => by
    simp only [List.map_cons, List.cons.injEq] at h
    have hx : x = y := by
      have h1 : x.data = y.data := Array.toList_inj.1 h.1
      cases x; cases y; simpa using h1
    rw [hx, bytes_inj h.2]
/-- The library's split at one byte is spl. -/
theorem splitB_spl (s : ByteArray) (c : UInt8) : Lib.splitB ⟨#[c]⟩ 0 (Lib.countB s ⟨#[c]⟩) s = spl s c.toNat := by
  apply bytes_inj
  rw [Lib.splitB_data, spl_cut]
  exact splitK_cut c 0 [] (.inl ⟨rfl, rfl⟩) s.data.toList.length s.data.toList (Nat.le_refl _)
end Go.Proofs.YtkgkpcmokmhakaaGreatDoor

namespace Go.Proofs.YtkgkpcmokmhakaaGreatDoor
open Go.RowKit Go.Sort
attribute [local go_sem] Oper.semAt_some

theorem dec_short : ∀ k u : Nat, u < 10 ^ (k + 1) → (Lib.decDigits u).length ≤ k + 1
  | 0, u, h => by rw [Lib.decDigits_one (by omega)]; simp
  | k + 1, u, h => by
    by_cases h1 : u < 10
    · rw [Lib.decDigits_one h1]; simp
    · rw [Lib.decDigits, dif_neg h1]
      have := dec_short k (u / 10) (by rw [Nat.pow_succ] at h; omega)
      simp only [List.length_append, List.length_cons, List.length_nil]
      omega
theorem itB_small (n : Int) (h : -1000000 ≤ n ∧ n ≤ 1000000) : (itB n).size ≤ 32 := by
  show (Lib.itoa n).toArray.size ≤ 32
  rw [List.size_toArray]
  unfold Lib.itoa
  split
  · have := dec_short 6 n.natAbs (by omega)
    simp only [List.length_cons]; omega
  · have := dec_short 6 n.toNat (by omega)
    omega
theorem below_dgrow (w : World) (k : Nat) (os : Array Obj) : Below w.heap.size w (grow (w.drewN k) os) :=
  below_grown_sl w.heap.size w k os (Nat.le_refl _)
theorem ita_at (w : World) (n : Int) (h : -1000000 ≤ n ∧ n ≤ 1000000) (HT : ∀ W, Below w.heap.size w W → Lib.TabIs Tryz.prog W "internal/strconv.uint64pow10" .u64 Lib.pow10Tab) : ItaAt w itB n := by
  refine ⟨itB_small n h, fun W hW => (Tryz.strconv_Itoa n (by omega) (by omega) W (HT W hW)).mono ?_⟩
  rintro e w' ⟨rfl, k, os, rfl⟩
  exact ⟨rfl, below_dgrow W k os⟩
theorem bytes_one {a b : ByteArray} (h : a.data.toList = b.data.toList) : a = b := by
  have := bytes_inj (a := [a]) (b := [b]) (by simpa using h)
  simpa using this
theorem txB_text (nm : ByteArray) (st : Int) (bs : List Nat) (gs : List (Int × Int)) (hC : Can gs) : ∀ k, k ≤ bs.length → (txB nm st bs gs k).data.toList = textP itB nm st (knL gs bs.length) bs k
  | 0, _ => by
    rw [txB]
    simp [textP, headP]
  | k + 1, hk => by
    have ih := txB_text nm st bs gs hC k (by omega)
    have hm := knL_at gs bs.length k (by omega)
    rw [cov_has gs k hC] at hm
    rw [txB]
    unfold textP lineP
    rw [← ih, hm]
    cases hh : hasL gs (k : Int)
    · simp
    · simp
/-- The program's Print of a valid record. -/
theorem gPrint_any (nm : ByteArray) (st : Int) (lv gv : Value) (bs : List Nat) (gs : List (Int × Int)) (w : World) (hl : Rd w w.heap.size lv bs.length (flc bs)) (hg : Rd w w.heap.size gv gs.length (spc gs)) (V : Valid nm st bs gs)
    (HT : ∀ W, Below w.heap.size w W → Lib.TabIs Tryz.prog W "internal/strconv.uint64pow10" .u64 Lib.pow10Tab) :
    Calls Tryz.prog 14 #[.agg #[.string nm, .int .i64 st, lv, gv]] w fun e w' => e = .returned (.tuple #[.string (txB nm st bs gs bs.length), .int .i64 0]) ∧ Below w.heap.size w w' := by
  have hst : 0 ≤ st ∧ st ≤ 100000 := V.start
  have e1 : (⟨(textP itB nm st (knL gs bs.length) bs bs.length).toArray⟩ : ByteArray) = txB nm st bs gs bs.length := bytes_one (by rw [txB_text nm st bs gs (can_of gs V.spans) _ (Nat.le_refl _)])
  rw [← e1]
  refine print_at itB nm st lv gv bs gs w hl hg V (ita_at w st (by omega) HT) (fun i hi _ => ita_at w _ ?_ HT)
  obtain ⟨-, t1, t2⟩ := sixt_of (V.lev i hi)
  omega
end Go.Proofs.YtkgkpcmokmhakaaGreatDoor

namespace Go.Proofs.YtkgkpcmokmhakaaGreatDoor
open Go.RowKit
attribute [local go_sem] Oper.semAt_some

/-- The first elements of a list, then what it was before. -/
def pfx {α : Type} (d : α) (xs : List α) (k : Nat) : List α := (List.range xs.length).map (fun i => if i < k then xs.getD i d else d)
theorem pfx_zero {α : Type} (d : α) (xs : List α) : pfx d xs 0 = List.replicate xs.length d := by
  apply List.ext_getElem
  · simp [pfx]
  · intro i h1 h2; simp [pfx]
theorem pfx_end {α : Type} (d : α) (xs : List α) : pfx d xs xs.length = xs := by
  apply List.ext_getElem
  · simp [pfx]
  · intro i h1 h2
    have : i < xs.length := by simpa [pfx] using h1
    simp [pfx, this]
theorem pfx_set {α : Type} (d : α) (xs : List α) (k : Nat) : (pfx d xs k).set k (xs.getD k d) = pfx d xs (k + 1) := by
  apply List.ext_getElem
  · simp [pfx]
  · intro i h1 h2
    rw [List.getElem_set]
    have hi : i < xs.length := by simpa [pfx] using h2
    by_cases e : k = i
    · subst e
      rw [if_pos rfl]
      simp [pfx]
    · rw [if_neg e]
      have : (i < k + 1) = (i < k) := propext (by omega)
      simp [pfx, this]
theorem flc_set (ls : List Nat) (i v : Nat) : (flc ls).set i (.float .f32 v) = flc (ls.set i v) := by
  unfold flc
  rw [List.map_set]
theorem blm_set (ls : List Bool) (i : Nat) (v : Bool) : (ls.map Value.bool).set i (.bool v) = (ls.set i v).map Value.bool := by rw [List.map_set]

/-- What readRecord holds: the result's block, the levels, the marks. -/
structure RI (w : World) (n L M : Nat) (ls : List Nat) (ms : List Bool) (W : World) : Prop where
  res : W.heap[w.heap.size]? = some (.cells #[.string ⟨#[]⟩, .int .i64 0, .slice none 0 0, .slice none 0 0] 35 (0, 0))
  lev : W.ownsRow (w.heap.size + 1) 60 1 (.slice (some ⟨L, 0, none⟩) n n) n (flc ls)
  mrk : W.ownsRow (w.heap.size + 1) 4 1 (.slice (some ⟨M, 0, none⟩) n n) n (ms.map Value.bool)
  bel : Below w.heap.size w W
theorem RI.below {w : World} {n L M : Nat} {ls : List Nat} {ms : List Bool} {V W : World} (h : RI w n L M ls ms V) (hb : Below V.heap.size V W) : RI w n L M ls ms W :=
  ⟨(hb.block _ (blk_lt h.res)).trans h.res, own_belS h.lev hb, own_belS h.mrk hb, h.bel.trans (hb.mono h.bel.size)⟩
theorem RI.put {w : World} {n L M : Nat} {ls : List Nat} {ms : List Bool} {V : World} (h : RI w n L M ls ms V) (i v : Nat) (b : Bool) :
    RI w n L M (ls.set i v) (ms.set i b) ((V.setCell ⟨L, i, none⟩ (.float .f32 v)).setCell ⟨M, i, none⟩ (.bool b)) := by
  have hL := (h.lev.lt L rfl).1
  have hM := (h.mrk.lt M rfl).1
  have h1 : (V.setCell ⟨L, i, none⟩ (.float .f32 v)).ownsRow (w.heap.size + 1) 60 1 (.slice (some ⟨L, 0, none⟩) n n) n (flc (ls.set i v)) := by rw [← flc_set]; exact (h.lev.stored i _).1
  have h2 : (V.setCell ⟨L, i, none⟩ (.float .f32 v)).ownsRow (w.heap.size + 1) 4 1 (.slice (some ⟨M, 0, none⟩) n n) n (ms.map Value.bool) := own_farS h.mrk (own_typesS h.mrk h.lev (by decide))
  refine ⟨?_, own_farS h1 (own_typesS h1 h2 (by decide)), by rw [← blm_set]; exact (h2.stored i _).1, (h.bel.setCell (p := ⟨L, i, none⟩) (by show w.heap.size ≤ L; omega) _).setCell (p := ⟨M, i, none⟩) (by show w.heap.size ≤ M; omega) _⟩
  rw [Below.heap_setCell _ ⟨M, i, none⟩ _ _ (by show w.heap.size ≠ M; omega), Below.heap_setCell _ ⟨L, i, none⟩ _ _ (by show w.heap.size ≠ L; omega)]
  exact h.res
/-- What readRecord gives back. -/
def RdRec (NM : ByteArray) (ST : Int) (hb : Bool) (n : Nat) (xs : List Nat) (ms ks : List Bool) (w : World) (e : Ending) (w' : World) : Prop := Below w.heap.size w w' ∧
  ((hb = false ∧ e = .returned (.tuple #[.agg #[.string ⟨#[]⟩, .int .i64 0, .slice none 0 0, .slice none 0 0], .int .i64 0])) ∨
   (hb = true ∧ ∃ k, k < n ∧ (∀ i, i < k → ks.getD i false = true) ∧ ks.getD k false = false ∧ e = .returned (.tuple #[.agg #[.string ⟨#[]⟩, .int .i64 0, .slice none 0 0, .slice none 0 0], .int .i64 ((k + 1 : Nat) : Int)])) ∨
   (hb = true ∧ (∀ i, i < n → ks.getD i false = true) ∧ ∃ LV GV, e = .returned (.tuple #[.agg #[.string NM, .int .i64 ST, LV, GV], .int .i64 ((n + 1 : Nat) : Int)]) ∧ w'.ownsRow w.heap.size 60 1 LV n (flc (asmK xs ms n)) ∧ w'.ownsRow w.heap.size 50 2 GV (strF (ms.map (!·)) n).length (spc (strF (ms.map (!·)) n))))

set_option maxRecDepth 1000000 in
set_option maxHeartbeats 8000000 in
theorem readRecord_any (NM : ByteArray) (ST : Int) (hb : Bool) (h0 : ByteArray) (T : List ByteArray) (xs : List Nat) (ms ks : List Bool) (g o c : Nat) (w : World) (hx : xs.length = T.length) (hms : ms.length = T.length) (hc : T.length + 1 ≤ c) (hc2 : c ≤ 1000000) (hn : T.length ≤ 100000) (hg : g < w.heap.size)
    (HLN : Hid (∀ j u, (stc1 (h0 :: T))[j]? = some u → w.cell? ⟨g, o + j, none⟩ = some u))
    (HH : Hid (∀ W, Below w.heap.size w W → Calls Tryz.prog 79 #[.string h0] W fun e w' => e = .returned (.tuple #[.string NM, .int .i64 ST, .bool hb]) ∧ Below W.heap.size W w'))
    (HRL : Hid (∀ i W, i < T.length → Below w.heap.size w W → Calls Tryz.prog 80 #[.string (T.getD i ⟨#[]⟩)] W fun e w' => e = .returned (.tuple #[.float .f32 (xs.getD i 0), .bool (ms.getD i false), .bool (ks.getD i false)]) ∧ Below W.heap.size W w')) :
    Calls Tryz.prog 42 #[.slice (some ⟨g, o, none⟩) (T.length + 1) c] w (RdRec NM ST hb T.length xs ms ks w) := by
  obtain ⟨i0, hi, hz0, hz1, hz2⟩ := info_parts floatInfo
  obtain ⟨j0, hj, hy0, hy1, hy2⟩ := info_parts boolInfo
  have HJ := hd (And.intro hj (And.intro hy0 (And.intro hy1 hy2)))
  have HBY := hd (show i0.bytes * T.length ≤ 281474976710656 by rw [hz2]; omega)
  have HBJ := hd (show j0.bytes * T.length ≤ 281474976710656 by rw [hy2]; omega)
  have HMX := hd (show T.length ≤ maxLen by unfold maxLen; omega)
  have HX := hd hx
  have HM := hd hms
  have HC0 := hd (show ∀ W, Below w.heap.size w W → W.cell? ⟨g, o, none⟩ = some (.string h0) from fun W h => (h.cell (p := ⟨g, o, none⟩) hg).trans (HLN.out 0 _ rfl))
  have HCT := hd (show ∀ W i, Below w.heap.size w W → i < T.length → W.cell? ⟨g, o + 1 + i, none⟩ = some (.string (T.getD i ⟨#[]⟩)) from fun W i h hi => (h.cell (p := ⟨g, o + 1 + i, none⟩) hg).trans (by rw [show o + 1 + i = o + (i + 1) by omega]; exact HLN.out (i + 1) _ (by simp [stc1, hi])))
  obtain ⟨n, hnn⟩ : ∃ n, n = T.length := ⟨_, rfl⟩
  rw [← hnn] at hc hn HBY HBJ HMX HX HM HRL HCT ⊢
  obtain ⟨N, hN⟩ : ∃ N, N = n + 1 := ⟨_, rfl⟩
  have hn1 : ((N : Nat) : Int) - 1 = (n : Int) := by omega
  have hN1 : (1 : Int) ≤ (N : Int) := by omega
  have hN0 : (0 : Int) < (N : Int) := by omega
  have hNn : N - 1 = n := by omega
  have hNc : N ≤ c := by omega
  have hNp : 1 ≤ N := by omega
  have hcp : 1 ≤ c := by omega
  rw [← hN] at hc ⊢
  have HNN := hd hN
  obtain ⟨W0, hW0⟩ : ∃ W0, W0 = w.alloc (.cells #[.string ⟨#[]⟩, .int .i64 0, .slice none 0 0, .slice none 0 0] 35) := ⟨_, rfl⟩
  have hb0 : Below w.heap.size w W0 := by rw [hW0]; exact (Below.refl _ w).alloc (Nat.le_refl _) _
  have HR0 := hd (show W0.heap[w.heap.size]? = some (.cells #[.string ⟨#[]⟩, .int .i64 0, .slice none 0 0, .slice none 0 0] 35 (0, 0)) by rw [hW0]; exact blk_new _ _ _)
  have hl0 := HC0.out W0 hb0
  rw [hW0] at hl0
  have HB0 := hd hb0
  clear hb0 hx hms hnn hN hj hy0 hy1 hy2 HC0 HLN
  go_enter Tryz.func42, Tryz.ntmps42
  go_wp2_with fail
  rw [← hW0]
  clear hW0 hl0
  refine (HH.out _ HB0.out).mono ?_
  rintro e w1 ⟨rfl, hb1⟩
  have HR1 := hd ((hb1.block _ (blk_lt HR0.out)).trans HR0.out)
  have HB1 := hd (HB0.out.trans (hb1.mono HB0.out.size))
  have hs1 : w.heap.size < w1.heap.size := blk_lt HR1.out
  clear hb1 HR0 HB0
  cases hb
  · have HZ := hd (show RdRec NM ST false n xs ms ks w (.returned (.tuple #[.agg #[.string ⟨#[]⟩, .int .i64 0, .slice none 0 0, .slice none 0 0], .int .i64 0])) = RdRec NM ST false n xs ms ks w (.returned (.tuple #[.agg #[.string ⟨#[]⟩, .int .i64 0, .slice none 0 0, .slice none 0 0], .int .i64 0])) from rfl)
    clear HZ
    have r0 := blk_cell HR1.out 0
    have r1 := blk_cell HR1.out 1
    have r2 := blk_cell HR1.out 2
    have r3 := blk_cell HR1.out 3
    have y0 := blk_frozen HR1.out 0
    have y1 := blk_frozen HR1.out 1
    have y2 := blk_frozen HR1.out 2
    have y3 := blk_frozen HR1.out 3
    simp at r0 r1 r2 r3
    go_wp2_with fail
    clear r0 r1 r2 r3 y0 y1 y2 y3
    all_goals
      have r0 := blk_cell HR1.out 0
      have r1 := blk_cell HR1.out 1
      have r2 := blk_cell HR1.out 2
      have r3 := blk_cell HR1.out 3
      simp at r0 r1 r2 r3
      have hq := set4S_blk HR1.out (.string ⟨#[]⟩) (.int .i64 0) (.slice none 0 0) (.slice none 0 0)
      have z0 := blk_cell hq 0
      have z1 := blk_cell hq 1
      have z2 := blk_cell hq 2
      have z3 := blk_cell hq 3
      simp at z0 z1 z2 z3
      have HB5 := hd (set4S_below HB1.out (Nat.le_refl _) (.string ⟨#[]⟩) (.int .i64 0) (.slice none 0 0) (.slice none 0 0))
      change bodyPost _ _ _ _ _ (set4S w1 w.heap.size (.string ⟨#[]⟩) (.int .i64 0) (.slice none 0 0) (.slice none 0 0))
      generalize set4S w1 w.heap.size (.string ⟨#[]⟩) (.int .i64 0) (.slice none 0 0) (.slice none 0 0) = W6 at *
      clear hq r0 r1 r2 r3
      exact bodyPost_ret (v := .tuple #[.agg #[.string ⟨#[]⟩, .int .i64 0, .slice none 0 0, .slice none 0 0], .int .i64 0]) (by simp [results, Tryz.results42, go_sem, z0, z1, z2, z3]) rfl ⟨HB5.out, .inl ⟨rfl, rfl⟩⟩
  · go_wp2_with (first
      | (at_make; refine wpList_make_full _ rfl _ _ 22 rfl (w.heap.size + 1) 60 i0 (.float .f32 0) 1 Tryz.underlying22 hi hz0 hz1 .i64 .i64 (n : Int) (n : Int) n rfl rfl rfl rfl HBY.out HMX.out (by omega) ?_; intro w5 hown5 hgrow5; have HO5 := hd (And.intro hown5 hgrow5); have hs5 : w1.heap.size < w5.heap.size := (hown5.lt _ rfl).2; clear hown5 hgrow5)
      | (at_make; refine wpList_make_full _ rfl _ _ 92 rfl (w.heap.size + 1) 4 j0 (.bool false) 1 Tryz.underlying92 HJ.out.1 HJ.out.2.1 HJ.out.2.2.1 .i64 .i64 (n : Int) (n : Int) n rfl rfl rfl rfl HBJ.out HMX.out (by omega) ?_; intro w6 hown6 hgrow6; have HO6 := hd (And.intro hown6 hgrow6); clear hown6 hgrow6))
    all_goals
      have HI0 := hd (show RI w n w1.heap.size w5.heap.size (pfx 0 xs 0) (pfx false ms 0) w6 from by
        obtain ⟨h1, h2⟩ := HO5.out
        obtain ⟨h3, h4⟩ := HO6.out
        have e1 : (madeCells (Value.float .f32 0).cells (n * 1)).toList = flc (pfx 0 xs 0) := by
          rw [show (Value.float .f32 0).cells = #[Value.float .f32 0] from rfl, toList_madeCells_one, pfx_zero, HX.out]; simp [flc]
        have e2 : (madeCells (Value.bool false).cells (n * 1)).toList = (pfx false ms 0).map Value.bool := by
          rw [show (Value.bool false).cells = #[Value.bool false] from rfl, toList_madeCells_one, pfx_zero, HM.out]; simp
        have h5 : w5.ownsRow (w.heap.size + 1) 60 1 (.slice (some ⟨w1.heap.size, 0, none⟩) n n) n (flc (pfx 0 xs 0)) := by rw [← e1]; exact h1
        refine ⟨(h4.block _ (by omega) (by simp)).trans ((h2.block _ (by omega) (by simp)).trans HR1.out), h5.kept h4 (by simp [Value.ownBlock]), by rw [← e2]; exact h3, (HB1.out.grown h2 (by omega) (fun _ h => by cases h)).grown h4 (by omega) (fun _ h => by cases h)⟩)
      clear HO5 HO6 HR1 HB1
      generalize w5.heap.size = M at *
      generalize w1.heap.size = L at *
      go_wp2
      go_loopw [36] (fun i wr => ∃ k : Nat, k ≤ n ∧ i = .int .i64 k ∧ Hid (RI w n L M (pfx 0 xs k) (pfx false ms k) wr) ∧ Hid (∀ i, i < k → ks.getD i false = true)) (fun i _ => n - (intOf i).toNat)
      case atStart => exact ⟨0, Nat.zero_le _, rfl, HI0, hd (fun i hi => absurd hi (by omega))⟩
      case round =>
        obtain ⟨k, hk, rfl, HI, HKS⟩ := hrel
        by_cases hlt : k < n
        · first
          | (exfalso; omega)
          | have hki : (k : Int) < (n : Int) := by omega
            have hl1 := HCT.out wr k HI.out.bel hlt
            have HRK := hd (fun W hW => HRL.out k W hlt hW)
            obtain ⟨y, hy⟩ : ∃ y, y = T.getD k ⟨#[]⟩ := ⟨_, rfl⟩
            obtain ⟨xv, hxv⟩ : ∃ v, v = xs.getD k 0 := ⟨_, rfl⟩
            obtain ⟨mv, hmv⟩ : ∃ v, v = ms.getD k false := ⟨_, rfl⟩
            obtain ⟨kv, hkv⟩ : ∃ v, v = ks.getD k false := ⟨_, rfl⟩
            rw [← hy] at hl1 HRK
            rw [← hxv, ← hmv, ← hkv] at HRK
            have HXV := hd hxv
            have HMV := hd hmv
            have HKV := hd hkv
            clear hy hxv hmv hkv
            go_wp2_with fail
            refine (HRK.out _ HI.out.bel).mono ?_
            rintro e w7 ⟨rfl, hb7⟩
            have HI7 := hd (HI.out.below hb7)
            clear hb7 HI hl1 HRK
            cases kv
            · have HR7 := hd HI7.out.res
              have HB7 := hd HI7.out.bel
              have r0 := blk_cell HR7.out 0
              have r1 := blk_cell HR7.out 1
              have r2 := blk_cell HR7.out 2
              have r3 := blk_cell HR7.out 3
              have y0 := blk_frozen HR7.out 0
              have y1 := blk_frozen HR7.out 1
              have y2 := blk_frozen HR7.out 2
              have y3 := blk_frozen HR7.out 3
              simp at r0 r1 r2 r3
              go_wp2_with fail
              clear r0 r1 r2 r3 y0 y1 y2 y3
              all_goals
                have r0 := blk_cell HR7.out 0
                have r1 := blk_cell HR7.out 1
                have r2 := blk_cell HR7.out 2
                have r3 := blk_cell HR7.out 3
                simp at r0 r1 r2 r3
                have hq := set4S_blk HR7.out (.string ⟨#[]⟩) (.int .i64 0) (.slice none 0 0) (.slice none 0 0)
                have z0 := blk_cell hq 0
                have z1 := blk_cell hq 1
                have z2 := blk_cell hq 2
                have z3 := blk_cell hq 3
                simp at z0 z1 z2 z3
                have HB5 := hd (set4S_below HB7.out (Nat.le_refl _) (.string ⟨#[]⟩) (.int .i64 0) (.slice none 0 0) (.slice none 0 0))
                change bodyPost _ _ _ _ _ (set4S w7 w.heap.size (.string ⟨#[]⟩) (.int .i64 0) (.slice none 0 0) (.slice none 0 0))
                generalize set4S w7 w.heap.size (.string ⟨#[]⟩) (.int .i64 0) (.slice none 0 0) (.slice none 0 0) = W6 at *
                clear hq r0 r1 r2 r3
                exact bodyPost_ret (v := .tuple #[.agg #[.string ⟨#[]⟩, .int .i64 0, .slice none 0 0, .slice none 0 0], .int .i64 ((k + 1 : Nat) : Int)]) (by simp [results, Tryz.results42, go_sem, z0, z1, z2, z3]) rfl ⟨HB5.out, .inr (.inl ⟨rfl, k, hlt, HKS.out, HKV.out.symm, rfl⟩)⟩
            · have HKS2 := hd (show ∀ i, i < k + 1 → ks.getD i false = true from fun i hi => by
                by_cases e : i = k
                · rw [e]; exact HKV.out.symm
                · exact HKS.out i (by omega))
              have HI8 := hd (show RI w n L M (pfx 0 xs (k + 1)) (pfx false ms (k + 1)) ((w7.setCell ⟨L, k, none⟩ (.float .f32 xv)).setCell ⟨M, k, none⟩ (.bool mv)) from by
                have h := HI7.out.put k xv mv
                rw [HXV.out, HMV.out, pfx_set, pfx_set] at h
                rw [HXV.out, HMV.out]; exact h)
              have c1 := HI7.out.lev.cellAt k (by omega)
              have c2 := HI7.out.lev.frozenAt k
              have c3 := HI7.out.mrk.cellAt k (by omega)
              have c4 := HI7.out.mrk.frozenAt k
              have hLM : L ≠ M := fun e => by
                have h := own_typesS HI7.out.lev HI7.out.mrk (by decide)
                rcases h with h | h
                · cases h
                · exact h (by rw [e])
              have hML := hLM.symm
              rw [show (flc (pfx 0 xs k))[k]? = some (.float .f32 ((pfx 0 xs k).getD k 0)) by simp [flc, pfx, HX.out, hlt]] at c1
              rw [show ((pfx false ms k).map Value.bool)[k]? = some (.bool ((pfx false ms k).getD k false)) by simp [pfx, HM.out, hlt]] at c3
              generalize (pfx 0 xs k).getD k 0 = p1 at c1
              generalize (pfx false ms k).getD k false = p2 at c3
              clear HKS HXV HMV HKV
              go_wp2
              go_roundw
              case rel => exact ⟨k + 1, by omega, by go_num, HI8, HKS2⟩
              case measure => simp [intOf]; omega
        · have hke : k = n := by omega
          subst hke
          have hL := HI.out.lev
          have hM := HI.out.mrk
          rw [← HX.out, pfx_end] at hL
          have hM2 : wr.ownsRow (w.heap.size + 1) 4 1 (.slice (some ⟨M, 0, none⟩) k k) k (ms.map Value.bool) := by
            have h : pfx false ms k = ms := by rw [← HM.out, pfx_end]
            rw [h] at hM; exact hM
          rw [HX.out] at hL
          have HAS := hd (assemble_any NM ST (.slice (some ⟨L, 0, none⟩) k k) (.slice (some ⟨M, 0, none⟩) k k) xs ms wr (by rw [HX.out]; exact rd_of_own hL) (by rw [HM.out]; exact rd_of_own hM2) (by rw [HM.out, HX.out]) (by rw [HX.out]; exact hn))
          have HRW := hd HI.out.res
          have HBW := hd HI.out.bel
          have hws : w.heap.size < wr.heap.size := blk_lt HRW.out
          clear hL hM hM2 HI
          go_wp2_with fail
          refine HAS.out.mono ?_
          rintro e w8 ⟨LV, GV, rfl, ho1, ho2, hb8⟩
          rw [HX.out, misK_not ms k HM.out] at ho2
          rw [HX.out] at ho1
          rw [asmK_len, HX.out] at ho1
          obtain ⟨A1, c1, rfl, -⟩ := own_form ho1
          obtain ⟨A2, c2, rfl, -⟩ := own_form ho2
          have HO1 := hd ho1
          have HO2 := hd ho2
          have HR8 := hd ((hb8.block _ hws).trans HRW.out)
          have HB8 := hd (HBW.out.trans (hb8.mono HBW.out.size))
          clear ho1 ho2 hb8 HRW HBW HAS
          have r0 := blk_cell HR8.out 0
          have r1 := blk_cell HR8.out 1
          have r2 := blk_cell HR8.out 2
          have r3 := blk_cell HR8.out 3
          have y0 := blk_frozen HR8.out 0
          have y1 := blk_frozen HR8.out 1
          have y2 := blk_frozen HR8.out 2
          have y3 := blk_frozen HR8.out 3
          simp at r0 r1 r2 r3
          go_wp2_with fail
          clear r0 r1 r2 r3 y0 y1 y2 y3
          have hq := set4S_blk HR8.out (.string NM) (.int .i64 ST) (.slice A1 k c1) (.slice A2 (strF (ms.map (!·)) k).length c2)
          have z0 := blk_cell hq 0
          have z1 := blk_cell hq 1
          have z2 := blk_cell hq 2
          have z3 := blk_cell hq 3
          simp at z0 z1 z2 z3
          have HB5 := hd (set4S_below HB8.out (Nat.le_refl _) (.string NM) (.int .i64 ST) (.slice A1 k c1) (.slice A2 (strF (ms.map (!·)) k).length c2))
          have HL5 := hd (own_set4S (a := .string NM) (b := .int .i64 ST) (c := .slice A1 k c1) (d := .slice A2 (strF (ms.map (!·)) k).length c2) HO1.out (own_boxS HO1.out HR8.out (by decide)))
          have HG5 := hd (own_set4S (a := .string NM) (b := .int .i64 ST) (c := .slice A1 k c1) (d := .slice A2 (strF (ms.map (!·)) k).length c2) HO2.out (own_boxS HO2.out HR8.out (by decide)))
          change bodyPost _ _ _ _ _ (set4S w8 w.heap.size (.string NM) (.int .i64 ST) (.slice A1 k c1) (.slice A2 (strF (ms.map (!·)) k).length c2))
          generalize set4S w8 w.heap.size (.string NM) (.int .i64 ST) (.slice A1 k c1) (.slice A2 (strF (ms.map (!·)) k).length c2) = W6 at *
          clear hq
          exact bodyPost_ret (v := .tuple #[.agg #[.string NM, .int .i64 ST, .slice A1 k c1, .slice A2 (strF (ms.map (!·)) k).length c2], .int .i64 (N : Int)]) (by simp [results, Tryz.results42, go_sem, z0, z1, z2, z3]) rfl ⟨HB5.out, .inr (.inr ⟨rfl, HKS.out, _, _, by rw [HNN.out], own_base HL5.out (by omega), own_base HG5.out (by omega)⟩)⟩
end Go.Proofs.YtkgkpcmokmhakaaGreatDoor

namespace Go.Proofs.YtkgkpcmokmhakaaGreatDoor
open Go.RowKit
attribute [local go_sem] Oper.semAt_some

/-- Whether a line ends with its line feed, and the line without it. -/
def lfN (s : ByteArray) : Bool := decide (0 < s.size ∧ bAt s (s.size - 1) = 10)
def lfB (s : ByteArray) : ByteArray := if 0 < s.size ∧ bAt s (s.size - 1) = 10 then s.extract 0 (s.size - 1) else s
theorem lf_suf (s : ByteArray) : Lib.hasSuffix s.data.toList [10] = lfN s := by
  have hl : s.data.toList.length = s.size := by simp
  unfold lfN bAt Lib.hasSuffix
  rcases List.eq_nil_or_concat s.data.toList with h | ⟨l, a, h⟩
  · rw [h] at hl
    have h0 : s.size = 0 := by simpa using hl.symm
    simp [h, h0]
  · rw [h] at hl
    have h0 : s.size = l.length + 1 := by rw [← hl]; simp
    have hg : (l ++ [a]).getD (s.size - 1) 0 = a := by rw [h0]; simp
    rw [h, List.concat_eq_append, hg]
    by_cases ha : a = 10
    · subst ha; simp [h0]
    · have h2 : ¬ a.toNat = 10 := fun e => ha (by apply UInt8.toNat_inj.1; exact e)
      have h3 : ((10 : UInt8) == a) = false := by rw [beq_eq_false_iff_ne]; exact fun e => ha e.symm
      simp only [h2, List.isSuffixOf, and_false, decide_false, List.reverse_append, List.reverse_cons, List.reverse_nil, List.nil_append, List.singleton_append]
      show ((10 : UInt8) == a && [].isPrefixOf l.reverse) = false
      rw [h3]; rfl
set_option maxRecDepth 1000000 in
theorem cutSuffixL_any (s : ByteArray) (w : World) (hs : s.size ≤ 1000000) : Calls Tryz.prog 153 #[.string s, .string ⟨#[10]⟩] w fun e w' => e = .returned (.tuple #[.string (lfB s), .bool (lfN s)]) ∧ w' = w := by
  have HP := hd (fun W => by have h := Tryz.stringslite_HasSuffix s ⟨#[10]⟩ W (by omega); rw [show (⟨#[10]⟩ : ByteArray).data.toList = [10] from rfl, lf_suf] at h; exact h)
  cases hc : lfN s
  · rw [hc] at HP
    have HB := hd (show lfB s = s by unfold lfB; rw [if_neg]; unfold lfN at hc; simpa using hc)
    clear hc hs
    go_enter Tryz.func153, Tryz.ntmps153
    go_wp2_with fail
    refine (HP.out _).mono ?_
    rintro e w' ⟨rfl, rfl⟩
    go_wp2_with fail
    go_returns
    exact ⟨by rw [HB.out]; rfl, rfl⟩
  · rw [hc] at HP
    have hp : 0 < s.size ∧ bAt s (s.size - 1) = 10 := by unfold lfN at hc; simpa using hc
    have HB := hd (show lfB s = s.extract 0 (s.size - 1) from if_pos hp)
    obtain ⟨m, hm⟩ : ∃ m : Nat, s.size = m + 1 := ⟨s.size - 1, by omega⟩
    have hm0 : (0 : Int) ≤ (m : Int) := by omega
    have hm1 : (m : Int) ≤ (s.size : Int) := by omega
    have HB2 := hd (show s.size - 1 = m by omega)
    clear hc hp
    go_enter Tryz.func153, Tryz.ntmps153
    go_wp2_with fail
    refine (HP.out _).mono ?_
    rintro e w' ⟨rfl, rfl⟩
    go_wp2_with fail
    go_returns
    exact ⟨by rw [HB.out, HB2.out]; rfl, rfl⟩
set_option maxRecDepth 1000000 in
theorem cutSuffix_any (s : ByteArray) (w : World) (hs : s.size ≤ 1000000) : Calls Tryz.prog 130 #[.string s, .string ⟨#[10]⟩] w fun e w' => e = .returned (.tuple #[.string (lfB s), .bool (lfN s)]) ∧ w' = w := by
  go_enter Tryz.func130, Tryz.ntmps130
  go_wp2_with fail
  refine (cutSuffixL_any s _ hs).mono ?_
  rintro e w' ⟨rfl, rfl⟩
  go_wp2_with fail
  go_returns
  exact ⟨rfl, rfl⟩
end Go.Proofs.YtkgkpcmokmhakaaGreatDoor

namespace Go.Proofs.YtkgkpcmokmhakaaGreatDoor
open Go.RowKit
attribute [local go_sem] Oper.semAt_some

theorem spl_len (s : ByteArray) (c : UInt8) : (spl s c.toNat).length = Lib.countB s ⟨#[c]⟩ + 1 := by
  rw [← splitB_spl]
  exact Lib.splitB_all ⟨#[c]⟩ (by show 1 ≤ 1; omega) 0 (Lib.countB s ⟨#[c]⟩) s rfl
/-- The block of strings that a split lays. -/
def splO (s : ByteArray) (c : Nat) : Obj := .cells (stc1 (spl s c)).toArray 9
theorem split_any (s : ByteArray) (c : UInt8) (m : Int) (w : World) (hs : s.size ≤ 1000000) (hm : w.cell? ⟨2, 0, none⟩ = some (.int .i64 m)) : Calls Tryz.prog 131 #[.string s, .string ⟨#[c]⟩] w fun e w' => e = .returned (.slice (some ⟨w.heap.size, 0, none⟩) (spl s c.toNat).length (spl s c.toNat).length) ∧ w' = w.alloc (splO s c.toNat) := by
  have h := Tryz.strings_Split s ⟨#[c]⟩ m w (by omega) hm (by show 1 ≤ 1; omega)
  rw [splitB_spl, ← spl_len] at h
  exact h
set_option maxRecDepth 1000000 in
theorem read_any (s : ByteArray) (m : Int) (w : World) (hs : s.size ≤ 100000) (hm : w.cell? ⟨2, 0, none⟩ = some (.int .i64 m)) : Calls Tryz.prog 109 #[.string s] w fun e w' => e = .returned (.tuple #[.pointer (some ⟨w.heap.size + 1, 0, none⟩), .bool (lfN s)]) ∧ w' = (w.alloc (splO (lfB s) 32)).alloc (.cells #[.slice (some ⟨w.heap.size, 0, none⟩) (spl (lfB s) 32).length (spl (lfB s) 32).length] 196) := by
  have HC := hd (fun W => cutSuffix_any s W (by omega))
  have hb : (lfB s).size ≤ 1000000 := by unfold lfB; split; simp; omega; omega
  have HS := hd (fun W hm => split_any (lfB s) 32 m W hb hm)
  have HM := hd hm
  clear hb hm hs
  generalize lfB s = b at *
  generalize lfN s = ng at *
  go_enter Tryz.func109, Tryz.ntmps109
  go_wp2_with fail
  refine (HC.out _).mono ?_
  rintro e w' ⟨rfl, rfl⟩
  go_wp2_with fail
  refine (HS.out _ HM.out).mono ?_
  rintro e w' ⟨rfl, rfl⟩
  go_wp2_with fail
  go_returns
  exact ⟨by simp, rfl⟩
end Go.Proofs.YtkgkpcmokmhakaaGreatDoor
