/-
  Contracts of texts.isLetter, texts.isDigit, texts.IsName and gauge.IsName, for every string. No condition.
  Contract of gauge.CheckRecord over valid records. Condition: the record is valid.
  Contract of gauge.known. Conditions: the ends of the gaps ascend; at most 100000 levels and gaps.
-/
import Derived.Test.YtkgkpcmokmhakaaGreatDoorProg
import Derived.Test.YtkgkpcmokmhakaaGreatDoorMB
import Derived.Laws.RangeAny

namespace Go.Proofs.YtkgkpcmokmhakaaGreatDoor
open Go.RowKit

def isLet (c : Int) : Bool := (decide (97 ≤ c) && decide (c ≤ 122)) || (decide (65 ≤ c) && decide (c ≤ 90))
def isDig (c : Int) : Bool := decide (48 ≤ c) && decide (c ≤ 57)
theorem isLet_any (c : Int) (w : World) : Calls Tryz.prog 119 #[.int .i32 c] w fun e w' => e = .returned (.bool (isLet c)) ∧ w = w' := by
  have E := hd (show isLet c = ((decide (97 ≤ c) && decide (c ≤ 122)) || (decide (65 ≤ c) && decide (c ≤ 90))) from rfl)
  by_cases h1 : 97 ≤ c <;> by_cases h2 : c ≤ 122 <;> by_cases h3 : 65 ≤ c <;> by_cases h4 : c ≤ 90
  all_goals first
    | (exfalso; omega)
    | (go_enter Tryz.func119, Tryz.ntmps119
       go_wp2
       go_ret
       exact ⟨by rw [E.out]; simp [h1, h2, h3, h4], rfl⟩)
theorem isDig_any (c : Int) (w : World) : Calls Tryz.prog 120 #[.int .i32 c] w fun e w' => e = .returned (.bool (isDig c)) ∧ w = w' := by
  have E := hd (show isDig c = (decide (48 ≤ c) && decide (c ≤ 57)) from rfl)
  by_cases h1 : 48 ≤ c <;> by_cases h2 : c ≤ 57
  all_goals first
    | (exfalso; omega)
    | (go_enter Tryz.func120, Tryz.ntmps120
       go_wp2
       go_ret
       exact ⟨by rw [E.out]; simp [h1, h2], rfl⟩)

/-- A byte that may stand at place i of a name. -/
def nameAt (i : Nat) (c : Int) : Bool := isLet c || (decide (0 < i) && (isDig c || decide (c = 95)))
def nameB (s : ByteArray) : Bool := decide (0 < s.size) && decide (s.size ≤ 24) && decide (∀ i, ∀ h : i < s.size, nameAt i ((s[i]'h).toNat : Int) = true)

theorem high_no (c : Int) (h : 128 ≤ c) (i : Nat) : isLet c = false ∧ isDig c = false ∧ nameAt i c = false := by
  have h1 : isLet c = false := by simp [isLet]; omega
  have h2 : isDig c = false := by simp [isDig]; omega
  exact ⟨h1, h2, by simp [nameAt, h1, h2]; omega⟩

/-- What the next step of a range over s gives. -/
theorem next_rune (s : ByteArray) (pos : Nat) (h : pos < s.size) (w : World) : ∃ (r : Int) (wd : Nat), (∀ ty, (Instr.next (.pointer (some ⟨w.heap.size, 0, none⟩)) true ty).run Tryz.prog (w.iter s pos) = .ok (.tuple #[.bool true, .int .i64 pos, .int .i32 r]) (w.iter s (pos + wd))) ∧
    1 ≤ wd ∧ nameAt pos r = nameAt pos ((s[pos]'h).toNat : Int) ∧ (nameAt pos r = true → wd = 1) := by
  by_cases ha : (s[pos]'h).toNat < 128
  · exact ⟨((s[pos]'h).toNat : Int), 1, fun ty => run_next_ascii w s pos ty h ha, Nat.le_refl _, rfl, fun _ => rfl⟩
  · obtain ⟨h1, h2⟩ := decode_high s pos h (by omega)
    refine ⟨((Utf8.decode s pos).1 : Int), (Utf8.decode s pos).2, fun ty => run_next_any w s pos ty h, h2, ?_, fun hn => ?_⟩
    · rw [(high_no _ (by omega) pos).2.2, (high_no _ (by omega) pos).2.2]
    · rw [(high_no _ (by omega) pos).2.2] at hn; cases hn

theorem iter_below {B : Nat} (w : World) (s : ByteArray) (pos : Nat) (hB : B ≤ w.heap.size) : Below B w (w.iter s pos) := (Below.refl B w).alloc hB _

theorem nameB_no (s : ByteArray) (h : s.size = 0 ∨ 24 < s.size) : nameB s = false := by
  unfold nameB
  rcases h with h | h
  · simp [h]
  · simp; omega
theorem nameB_at (s : ByteArray) (pos : Nat) (hp : pos < s.size) (h : nameAt pos ((s[pos]'hp).toNat : Int) = false) : nameB s = false := by
  unfold nameB
  simp only [Bool.and_eq_false_iff, decide_eq_false_iff_not]
  exact .inr fun hh => by rw [hh pos hp] at h; cases h
theorem nameB_yes (s : ByteArray) (h1 : 0 < s.size) (h2 : s.size ≤ 24) (h : ∀ i, ∀ hi : i < s.size, nameAt i ((s[i]'hi).toNat : Int) = true) : nameB s = true := by
  unfold nameB
  simp only [Bool.and_eq_true, decide_eq_true_eq]
  exact ⟨⟨h1, h2⟩, h⟩

set_option maxRecDepth 1000000 in
set_option maxHeartbeats 2000000 in
theorem textsName_any (s : ByteArray) (w : World) (hs : s.size ≤ maxLen) : Calls Tryz.prog 98 #[.string s] w fun e w' => e = .returned (.bool (nameB s)) ∧ Below w.heap.size w w' := by
  have hsz : s.data.toList.length = s.size := by simp
  unfold maxLen at hs
  by_cases h0 : s.size = 0
  · have HN := hd (nameB_no s (.inl h0))
    have e0 : s.toList = [] := by rw [ByteArray.toList_eq]; exact List.eq_nil_of_length_eq_zero (by omega)
    clear h0 hsz
    go_enter Tryz.func98, Tryz.ntmps98
    go_wp2
    go_ret
    exact ⟨by rw [HN.out]; rfl, Below.refl _ _⟩
  · have e0 : s.toList.isEmpty = false := by
      rw [ByteArray.toList_eq]
      cases hl : s.data.toList with
      | nil => rw [hl] at hsz; simp at hsz; omega
      | cons => rfl
    have e1 : (!s.toList.isEmpty) = true := by rw [e0]; rfl
    clear hsz
    by_cases h1 : 24 < s.size
    · have HN := hd (nameB_no s (.inr h1))
      have h1' : (24 : Int) < (s.size : Int) := by omega
      go_enter Tryz.func98, Tryz.ntmps98
      go_wp2
      go_ret
      exact ⟨by rw [HN.out]; rfl, Below.refl _ _⟩
    · have h1' : ¬ (24 : Int) < (s.size : Int) := by omega
      go_enter Tryz.func98, Tryz.ntmps98
      go_wp2
      go_loopw [2] (fun _ wr => ∃ pos : Nat, pos ≤ s.size ∧ wr = w.iter s pos ∧ Hid (∀ i, ∀ hi : i < s.size, i < pos → nameAt i ((s[i]'hi).toNat : Int) = true)) (fun _ wr => s.size - wr.iterPos w.heap.size)
      case atStart => exact ⟨0, Nat.zero_le _, rfl, fun i hi h => absurd h (by omega)⟩
      case round =>
        obtain ⟨pos, hpos, rfl, HP⟩ := hrel
        by_cases hp : pos < s.size
        · obtain ⟨r, wd, hnx, hwd, hna, hone⟩ := next_rune s pos hp w
          have hb := iter_below w s (pos + wd) (Nat.le_refl _)
          by_cases hy : nameAt pos r = true
          · obtain rfl := hone hy
            have HY := hd (hna.symm.trans hy)
            have HY2 := hd hy
            have hstep : Hid (∀ i, ∀ hi : i < s.size, i < pos + 1 → nameAt i ((s[i]'hi).toNat : Int) = true) := fun i hi hlt => by
              by_cases e : i = pos
              · subst e; exact HY.out
              · exact HP.out i hi (by omega)
            unfold nameAt at hy
            clear hna hone hwd HY HY2
            by_cases c1 : isLet r = true
            · clear hy
              go_wp2_with (first | (go_at_call 119; refine (isLet_any _ _).mono ?_; rintro e w' ⟨rfl, rfl⟩) | (go_at_call 120; refine (isDig_any _ _).mono ?_; rintro e w' ⟨rfl, rfl⟩))
              go_roundw
              case rel => exact ⟨pos + 1, by omega, rfl, hstep⟩
              case measure => simp; omega
            · have c1' : isLet r = false := by simpa using c1
              rw [c1'] at hy
              simp only [Bool.false_or, Bool.and_eq_true, decide_eq_true_eq, Bool.or_eq_true] at hy
              obtain ⟨hp0, hy⟩ := hy
              have b0 : ((pos : Int) == 0) = false := by simp; omega
              by_cases c2 : isDig r = true
              · clear hy c1
                go_wp2_with (first | (go_at_call 119; refine (isLet_any _ _).mono ?_; rintro e w' ⟨rfl, rfl⟩) | (go_at_call 120; refine (isDig_any _ _).mono ?_; rintro e w' ⟨rfl, rfl⟩))
                go_roundw
                case rel => exact ⟨pos + 1, by omega, rfl, hstep⟩
                case measure => simp; omega
              · have c2' : isDig r = false := by simpa using c2
                have c3 : r = 95 := by rcases hy with h | h; exact absurd h c2; exact h
                have b1 : (r != 95) = false := by simp [c3]
                clear hy c1 c2 c3
                go_wp2_with (first | (go_at_call 119; refine (isLet_any _ _).mono ?_; rintro e w' ⟨rfl, rfl⟩) | (go_at_call 120; refine (isDig_any _ _).mono ?_; rintro e w' ⟨rfl, rfl⟩))
                go_roundw
                case rel => exact ⟨pos + 1, by omega, rfl, hstep⟩
                case measure => simp; omega
          · have hy' : nameAt pos r = false := by simpa using hy
            have HN := hd (nameB_at s pos hp (hna.symm.trans hy'))
            unfold nameAt at hy'
            simp only [Bool.or_eq_false_iff] at hy'
            obtain ⟨c1, hy'⟩ := hy'
            clear hna hone hwd hy
            by_cases hp0 : pos = 0
            · subst hp0
              clear hy'
              go_wp2_with (first | (go_at_call 119; refine (isLet_any _ _).mono ?_; rintro e w' ⟨rfl, rfl⟩) | (go_at_call 120; refine (isDig_any _ _).mono ?_; rintro e w' ⟨rfl, rfl⟩))
              go_ret
              exact ⟨by rw [HN.out]; rfl, iter_below w s _ (Nat.le_refl _)⟩
            · have b0 : ((pos : Int) == 0) = false := by simpa using hp0
              simp only [Bool.and_eq_false_iff, decide_eq_false_iff_not, Bool.or_eq_false_iff] at hy'
              have hy2 : isDig r = false ∧ ¬ r = 95 := by rcases hy' with h | h; omega; exact h
              obtain ⟨c2, c3⟩ := hy2
              have b1 : (r != 95) = true := by simpa using c3
              clear hy' c3
              go_wp2_with (first | (go_at_call 119; refine (isLet_any _ _).mono ?_; rintro e w' ⟨rfl, rfl⟩) | (go_at_call 120; refine (isDig_any _ _).mono ?_; rintro e w' ⟨rfl, rfl⟩))
              go_ret
              exact ⟨by rw [HN.out]; rfl, hb⟩
        · have hnx : ∀ ty, (Instr.next (.pointer (some ⟨w.heap.size, 0, none⟩)) true ty).run Tryz.prog (w.iter s pos) = _ := fun ty => run_next_end w s pos ty hp
          have HN := hd (nameB_yes s (by omega) (by omega) (fun i hi => HP.out i hi (by omega)))
          go_wp2
          go_ret
          exact ⟨by rw [HN.out]; rfl, iter_below w s pos (Nat.le_refl _)⟩

theorem isName_any (s : ByteArray) (w : World) (hs : s.size ≤ maxLen) : Calls Tryz.prog 69 #[.string s] w fun e w' => e = .returned (.bool (nameB s)) ∧ Below w.heap.size w w' := by
  have HN := hd (textsName_any s w hs)
  clear hs
  go_enter Tryz.func69, Tryz.ntmps69
  go_wp2_with (go_at_call 98; refine HN.out.mono ?_; rintro e w' ⟨rfl, hb⟩; have HB := hd hb; clear hb)
  go_returns
  exact ⟨rfl, HB.out⟩

end Go.Proofs.YtkgkpcmokmhakaaGreatDoor

namespace Go.Proofs.YtkgkpcmokmhakaaGreatDoor
open Go.RowKit

theorem chkFrom_ok (l : List (Int × Int)) : ∀ e, chkFrom e l = 0 → (∀ s ∈ l, e < s.1 ∧ 0 ≤ s.1 ∧ s.1 < s.2 ∧ s.2 ≤ 100000) ∧ l.Pairwise (fun a b => a.2 < b.1) := by
  induction l with
  | nil => exact fun e _ => ⟨fun s hs => (by cases hs), .nil⟩
  | cons s l ih =>
    intro e h
    rw [chkFrom] at h
    by_cases hc : chkSpan s.1 s.2 ≠ 0
    · rw [if_pos hc] at h; exact absurd h hc
    · rw [if_neg hc] at h
      by_cases he : e < s.1
      · rw [if_pos he] at h
        obtain ⟨h1, h2⟩ := ih _ h
        have hs : 0 ≤ s.1 ∧ s.1 < s.2 ∧ s.2 ≤ 100000 := by
          unfold chkSpan at hc
          split at hc
          · assumption
          · simp at hc
        refine ⟨fun x hx => ?_, List.pairwise_cons.2 ⟨fun x hx => (h1 x hx).1, h2⟩⟩
        rcases List.mem_cons.1 hx with rfl | hx
        · exact ⟨he, hs⟩
        · have := h1 x hx; exact ⟨by omega, this.2⟩
      · rw [if_neg he] at h; cases h

theorem chkSpans_ok (l : List (Int × Int)) (h : chkSpans l = 0) : l.length ≤ 2048 ∧ (∀ s ∈ l, 0 ≤ s.1 ∧ s.1 < s.2 ∧ s.2 ≤ 100000) ∧ l.Pairwise (fun a b => a.2 < b.1) := by
  unfold chkSpans at h
  split at h
  · cases h
  · obtain ⟨h1, h2⟩ := chkFrom_ok l _ h
    exact ⟨by omega, fun s hs => (h1 s hs).2, h2⟩
theorem getD_mem (l : List (Int × Int)) (j : Nat) (hj : j < l.length) : l.getD j (0, 0) ∈ l := by
  have : l.getD j (0, 0) = l[j] := by simp [hj]
  rw [this]; exact List.getElem_mem hj
theorem asc_of (l : List (Int × Int)) (h : chkSpans l = 0) : Asc l := by
  obtain ⟨-, h1, h2⟩ := chkSpans_ok l h
  intro a b hab hb
  rcases Nat.lt_or_ge a b with hlt | hge
  · have e1 : l.getD a (0, 0) = l[a] := by simp [show a < l.length by omega]
    have e2 : l.getD b (0, 0) = l[b] := by simp [hb]
    have h3 := List.pairwise_iff_getElem.1 h2 a b (by omega) hb hlt
    have h4 := h1 _ (List.getElem_mem hb)
    rw [e1, e2]
    omega
  · have : a = b := by omega
    subst this; omega

/-- A valid record: its name, its start, the bits of its levels, its gaps. -/
structure Valid (nm : ByteArray) (st : Int) (bs : List Nat) (gs : List (Int × Int)) : Prop where
  size : nm.size ≤ maxLen
  name : nameB nm = true
  start : 0 ≤ st ∧ st ≤ 100000
  most : bs.length ≤ 4096
  lev : ∀ j, j < bs.length → levOK (bs.getD j 0) = true
  spans : chkSpans gs = 0
  ends : ∀ j, j < gs.length → (gs.getD j (0, 0)).2 ≤ (bs.length : Int)
  silent : ∀ j, j < gs.length → ∀ i : Nat, (gs.getD j (0, 0)).1 ≤ i → (i : Int) < (gs.getD j (0, 0)).2 → (FloatKind.f32.format.order (bs.getD i 0) 0 != some .eq) = false

theorem isName_yes (s : ByteArray) (w : World) (hs : s.size ≤ maxLen) (h : nameB s = true) : Calls Tryz.prog 69 #[.string s] w fun e w' => e = .returned (.bool true) ∧ Below w.heap.size w w' := by
  have := isName_any s w hs
  rwa [h] at this
theorem chkSpans_zero (sl : Value) (l : List (Int × Int)) (w : World) (h : Rd w w.heap.size sl l.length (spc l)) (h0 : chkSpans l = 0) :
    Calls Tryz.prog 72 #[sl] w fun e w' => e = .returned (.int .i64 0) ∧ Below w.heap.size w w' := by
  have := chkSpans_any sl l w h
  rwa [h0] at this

set_option maxRecDepth 1000000 in
set_option maxHeartbeats 2000000 in
theorem chkRec_ok (nm : ByteArray) (st : Int) (lv gv : Value) (bs : List Nat) (l : List (Int × Int)) (w : World) (hl : Rd w w.heap.size lv bs.length (flc bs)) (hg : Rd w w.heap.size gv l.length (spc l)) (V : Valid nm st bs l) :
    Calls Tryz.prog 33 #[.agg #[.string nm, .int .i64 st, lv, gv]] w fun e w' => e = .returned (.int .i64 0) ∧ Below w.heap.size w w' := by
  have hl2 := hl
  have hg2 := hg
  obtain ⟨A, c, rfl, hc1, hc2, -⟩ := hl2
  obtain ⟨A2, c2, rfl, hc3, hc4, -⟩ := hg2
  unfold maxLen at hc2 hc4
  have HLr := hd hl
  have HGr := hd hg
  have HV := hd V
  have hE : ∀ j, j < l.length → 0 ≤ (l.getD j (0, 0)).1 ∧ (l.getD j (0, 0)).1 < (l.getD j (0, 0)).2 ∧ (l.getD j (0, 0)).2 ≤ (bs.length : Int) := fun j hj => by
    have := (chkSpans_ok l V.spans).2.1 _ (getD_mem l j hj)
    exact ⟨this.1, this.2.1, V.ends j hj⟩
  have HE := hd hE
  have HR := hd (show rng st 0 100000 = 0 by unfold rng; rw [if_pos V.start])
  have HM := hd (show Go.Proofs.YtkgkpcmokmhakaaGreatDoor.most (bs.length : Int) 4096 = 0 by unfold Go.Proofs.YtkgkpcmokmhakaaGreatDoor.most; rw [if_pos (by have := V.most; omega)])
  clear hl hg V hE
  go_enter Tryz.func33, Tryz.ntmps33
  go_wp2
  have c0 := World.cell?_alloc_new w #[.string nm, .int .i64 st, .slice A bs.length c, .slice A2 l.length c2] 35 0
  have c1 := World.cell?_alloc_new w #[.string nm, .int .i64 st, .slice A bs.length c, .slice A2 l.length c2] 35 1
  have c2' := World.cell?_alloc_new w #[.string nm, .int .i64 st, .slice A bs.length c, .slice A2 l.length c2] 35 2
  have c3 := World.cell?_alloc_new w #[.string nm, .int .i64 st, .slice A bs.length c, .slice A2 l.length c2] 35 3
  have hsz : w.heap.size < (w.alloc (Obj.cells #[.string nm, .int .i64 st, .slice A bs.length c, .slice A2 l.length c2] 35)).heap.size := by simp
  have hb1 : Below w.heap.size w (w.alloc (Obj.cells #[.string nm, .int .i64 st, .slice A bs.length c, .slice A2 l.length c2] 35)) := (Below.refl _ w).alloc (Nat.le_refl _) _
  generalize (w.alloc (Obj.cells #[.string nm, .int .i64 st, .slice A bs.length c, .slice A2 l.length c2] 35)) = W1 at c0 c1 c2' c3 hsz hb1 ⊢
  have F0 : ∀ p : Bw W1, p.out.cell? ⟨w.heap.size, 0, none⟩ = some (.string nm) := fun p => p.cell hsz (by simpa using c0)
  have F1 : ∀ p : Bw W1, p.out.cell? ⟨w.heap.size, 1, none⟩ = some (.int .i64 st) := fun p => p.cell hsz (by simpa using c1)
  have F2 : ∀ p : Bw W1, p.out.cell? ⟨w.heap.size, 2, none⟩ = some (.slice A bs.length c) := fun p => p.cell hsz (by simpa using c2')
  have F3 : ∀ p : Bw W1, p.out.cell? ⟨w.heap.size, 3, none⟩ = some (.slice A2 l.length c2) := fun p => p.cell hsz (by simpa using c3)
  clear c0 c1 c2' c3
  refine wp_region_bw_tail 11 (by kernel_rfl) (by kernel_rfl) ?_
  simp only [List.take_succ_cons, List.take_zero, List.drop_succ_cons, List.drop_zero]
  repeat (first | go_big_quiet_step (first | (go_at_call 69; exact Bw.call _ (isName_yes _ _ HV.out.size HV.out.name)) | (go_at_call 40; exact Bw.pure _ (unl_any _ _ _)) | (go_at_call 59; exact Bw.pure _ (rng_any _ _ _ _)) | (go_at_call 47; exact Bw.pure _ (most_any _ _ _))))
  refine wpQuiet_nil ?_
  rintro ⟨W2, hB2⟩
  change wpList _ _ _ _ _ W2
  have hz := hd (show fst0 [unl true 8, rng st 0 100000, Go.Proofs.YtkgkpcmokmhakaaGreatDoor.most (bs.length : Int) 4096] = 0 by rw [HR.out, HM.out]; simp [fst0, unl])
  go_wp2_with (go_at_call 39; refine (first3 _ _ _ _ _).mono ?_; rintro e w' ⟨rfl, rfl⟩; rw [hz.out])
  have hbW : Below W1.heap.size W1 (W2.alloc (Obj.cells #[Value.int .i64 (unl true 8), Value.int .i64 (rng st 0 100000), Value.int .i64 (Go.Proofs.YtkgkpcmokmhakaaGreatDoor.most (bs.length : Int) 4096)] 36)) := hB2.alloc hB2.size _
  generalize (W2.alloc (Obj.cells #[Value.int .i64 (unl true 8), Value.int .i64 (rng st 0 100000), Value.int .i64 (Go.Proofs.YtkgkpcmokmhakaaGreatDoor.most (bs.length : Int) 4096)] 36)) = W3 at hbW ⊢
  have G0 : ∀ p : Bw W3, p.out.cell? ⟨w.heap.size, 0, none⟩ = some (.string nm) := fun p => F0 ⟨p.out, hbW.trans (p.below.mono hbW.size)⟩
  have G1 : ∀ p : Bw W3, p.out.cell? ⟨w.heap.size, 1, none⟩ = some (.int .i64 st) := fun p => F1 ⟨p.out, hbW.trans (p.below.mono hbW.size)⟩
  have G2 : ∀ p : Bw W3, p.out.cell? ⟨w.heap.size, 2, none⟩ = some (.slice A bs.length c) := fun p => F2 ⟨p.out, hbW.trans (p.below.mono hbW.size)⟩
  have G3 : ∀ p : Bw W3, p.out.cell? ⟨w.heap.size, 3, none⟩ = some (.slice A2 l.length c2) := fun p => F3 ⟨p.out, hbW.trans (p.below.mono hbW.size)⟩
  have hw3 : Below w.heap.size w W3 := hb1.trans (hbW.mono hb1.size)
  have HB3 := hd (fun p : Bw W3 => hw3.trans (p.below.mono hw3.size))
  clear F0 F1 F2 F3 hB2 hz
  refine wp_region_bw_tail 8 (by kernel_rfl) (by kernel_rfl) ?_
  simp only [List.take_succ_cons, List.take_zero, List.drop_succ_cons, List.drop_zero]
  repeat (first | go_big_quiet_step (first | (go_at_call 70; exact Bw.pure _ (eachLev_ok _ bs _ ((HLr.out.below (HB3.out _) (Nat.le_refl _)).mono (HB3.out _).size) HV.out.lev)) | (go_at_call 72; exact Bw.call _ (chkSpans_zero _ l _ ((HGr.out.below (HB3.out _) (Nat.le_refl _)).mono (HB3.out _).size) HV.out.spans)) | (go_at_call 73; exact Bw.call _ (checkEnds_ok _ _ _ _ (flc bs) bs.length l _ ((HLr.out.below (HB3.out _) (Nat.le_refl _)).mono (HB3.out _).size) ((HGr.out.below (HB3.out _) (Nat.le_refl _)).mono (HB3.out _).size) (fun j hj => ⟨(HE.out j hj).1, (HE.out j hj).2.2⟩)))))
  refine wpQuiet_nil ?_
  rintro ⟨W4, hB4⟩
  change wpList _ _ _ _ _ W4
  have hz := hd (show fst0 [0, 0, 0] = 0 by simp [fst0])
  have k0 := fun o => cell_alloc_old (o := o) (G0 ⟨W4, hB4⟩)
  have k1 := fun o => cell_alloc_old (o := o) (G1 ⟨W4, hB4⟩)
  have k2 := fun o => cell_alloc_old (o := o) (G2 ⟨W4, hB4⟩)
  have k3 := fun o => cell_alloc_old (o := o) (G3 ⟨W4, hB4⟩)
  have hb4 : Below w.heap.size w W4 := HB3.out ⟨W4, hB4⟩
  have HB4 := hd (fun o => hb4.alloc hb4.size o)
  dsimp only at k0 k1 k2 k3
  clear G0 G1 G2 G3
  go_wp2_with (first | (go_at_call 39; refine (first3 _ _ _ _ _).mono ?_; rintro e w' ⟨rfl, rfl⟩; rw [hz.out]) | (go_at_call 74; refine (isSilent_ok _ _ _ _ bs l _ ((HLr.out.below (HB4.out _) (Nat.le_refl _)).mono (HB4.out _).size) ((HGr.out.below (HB4.out _) (Nat.le_refl _)).mono (HB4.out _).size) HE.out HV.out.silent).mono ?_; rintro e w' ⟨rfl, hb5⟩) | (go_at_call 40; refine (unl_any _ _ _).mono ?_; rintro e w' ⟨rfl, rfl⟩))
  go_ret
  exact ⟨by simp [unl], (HB4.out _).trans (hb5.mono (HB4.out _).size)⟩

end Go.Proofs.YtkgkpcmokmhakaaGreatDoor

namespace Go.Proofs.YtkgkpcmokmhakaaGreatDoor
open Go.RowKit

theorem boolInfo : (Tryz.prog.info? 4).map (fun i => (i.zero, i.size, i.bytes)) = some (some (.bool false), 1, 1) := by kernel_rfl

def knL (gs : List (Int × Int)) (n : Nat) : List Bool := (List.range n).map (fun i : Nat => !cov gs (i : Int))
theorem knL_len (gs : List (Int × Int)) (n : Nat) : (knL gs n).length = n := by simp [knL]
theorem knL_succ (gs : List (Int × Int)) (n : Nat) : knL gs (n + 1) = knL gs n ++ [!cov gs n] := by simp [knL, List.range_succ]

theorem below_gb {w w' : World} (h : Below w.heap.size w w') (row : Option Nat) : w.grownBy w' row := ⟨h.os, h.tape, h.output, h.size, fun k hk _ => h.block k hk⟩

/-- A value that owns marks from base on. -/
def OwnsBl (base : Nat) (l : List Bool) (w : World) (e : Ending) (w' : World) : Prop :=
  ∃ v, e = .returned v ∧ w'.ownsRow base 4 1 v l.length (l.map Value.bool) ∧ Below base w w'

theorem set_step (a : List Bool) (n k : Nat) (x : Bool) (hk : k < n) (ha : a.length = k) :
    ((a ++ List.replicate (n - k) false).map Value.bool).set k (.bool x) = ((a ++ [x]) ++ List.replicate (n - (k + 1)) false).map Value.bool := by
  subst ha
  rw [show n - a.length = (n - (a.length + 1)) + 1 by omega, List.replicate_succ]
  simp

set_option maxRecDepth 1000000 in
set_option maxHeartbeats 2000000 in
theorem known_any (nm : ByteArray) (st : Int) (lv gv : Value) (n : Nat) (xs : List Value) (l : List (Int × Int)) (w : World) (hl : Rd w w.heap.size lv n xs) (hg : Rd w w.heap.size gv l.length (spc l)) (hasc : Asc l) (hgl : l.length ≤ 100000) (hn : n ≤ 100000) :
    Calls Tryz.prog 36 #[.agg #[.string nm, .int .i64 st, lv, gv]] w (OwnsBl w.heap.size (knL l n) w) := by
  have hg2 := hg
  obtain ⟨A, c, rfl, hc1, hc2, -⟩ := hl
  obtain ⟨A2, c2, rfl, hc3, hc4, -⟩ := hg2
  obtain ⟨i0, hi, hz0, hz1, hz2⟩ := info_parts boolInfo
  unfold maxLen at hc2 hc4
  have HG := hd hg
  have HA := hd (And.intro hasc hgl)
  have HB := hd (show i0.bytes * n ≤ 281474976710656 by rw [hz2]; omega)
  have HM := hd (show n ≤ maxLen by unfold maxLen; omega)
  have hn63 : n ≤ 9223372036854775807 := by omega
  clear hg hasc hgl hn
  go_enter Tryz.func36, Tryz.ntmps36
  go_wp2_with (at_make; refine wpList_make_full _ rfl (.tmp 7) (.tmp 7) 92 rfl w.heap.size 4 i0 (.bool false) 1 Tryz.underlying92 hi hz0 hz1 .i64 .i64 (n : Int) (n : Int) n rfl rfl rfl rfl HB.out HM.out (by simp) ?_; intro w1 hown1 hgrow1)
  have c3 := World.cell?_alloc_new w #[.string nm, .int .i64 st, .slice A n c, .slice A2 l.length c2] 35 3
  have hb1 : Below w.heap.size w w1 := ((Below.refl _ w).alloc (Nat.le_refl _) _).grown hgrow1 (by simp) (fun _ h => by cases h)
  have k3 : w1.cell? ⟨w.heap.size, 3, none⟩ = some (.slice A2 l.length c2) := hgrow1.cell (by simp) (by simp)
  have hsz : w.heap.size < w1.heap.size := by have := hgrow1.size; simp at this; omega
  have hown2 : w1.ownsRow w.heap.size 4 1 (.slice (some ⟨w.heap.size + 1, 0, none⟩) n n) n ((knL l 0 ++ List.replicate (n - 0) false).map Value.bool) := by
    have e : (madeCells (Value.bool false).cells (n * 1)).toList = (knL l 0 ++ List.replicate (n - 0) false).map Value.bool := by
      rw [show (Value.bool false).cells = #[Value.bool false] from rfl, toList_madeCells_one]; simp [knL]
    rw [← e]; simpa using hown1
  have HO := hd hown2
  clear hown1 hgrow1 c3 hown2
  go_wp2
  go_loopw [11] (fun i wr => ∃ k : Nat, k ≤ n ∧ i = .int .i64 k ∧ wr.ownsRow w.heap.size 4 1 (.slice (some ⟨w.heap.size + 1, 0, none⟩) n n) n ((knL l k ++ List.replicate (n - k) false).map Value.bool) ∧ Below w.heap.size w wr ∧ wr.cell? ⟨w.heap.size, 3, none⟩ = some (.slice A2 l.length c2) ∧ w.heap.size + 1 < wr.heap.size) (fun i _ => n - (intOf i).toNat)
  case atStart => exact ⟨0, Nat.zero_le _, rfl, HO.out, hb1, k3, by have := (HO.out.lt _ rfl).2; omega⟩
  case round =>
    obtain ⟨k, hk, rfl, hown, hb, kk, hsz2⟩ := hrel
    by_cases hlt : k < n
    · have HO2 := hd hown
      have HR := hd ((HG.out.below hb (Nat.le_refl _)).mono hb.size)
      clear hown
      go_wp2_with fail
      refine (covers_any _ l _ _ HR.out HA.out.1 HA.out.2).mono ?_
      rintro e w' ⟨rfl, hb2⟩
      have hown' := HO2.out.kept (below_gb hb2 none) (.inr (by simp [Value.ownBlock]))
      have q0 : ((knL l k ++ List.replicate (n - k) false).map Value.bool)[k]? = some (.bool false) := by
        rw [List.map_append, List.getElem?_append_right (by simp [knL]), List.map_replicate, List.getElem?_replicate, if_pos (by simp [knL]; omega)]
      have q1 := (hown'.cellAt k (by omega)).trans q0
      have q2 := hown'.frozenAt k
      have hb3 : Below w.heap.size w w' := hb.trans (hb2.mono hb.size)
      have kk2 := (hb2.cell (p := ⟨w.heap.size, 3, none⟩) (by show w.heap.size < _; omega)).trans kk
      have hst := (hown'.stored k (.bool (!cov l k))).1
      rw [set_step (knL l k) n k _ hlt (knL_len l k), ← knL_succ] at hst
      have HO3 := hd hst
      have hsz3 : w.heap.size + 1 < w'.heap.size := by have := hb2.size; omega
      clear hown' q0 hst HO2 HR kk hb2 hb
      go_wp2
      go_roundw
      case rel => exact ⟨k + 1, by omega, by go_num, HO3.out, hb3.setCell (p := ⟨w.heap.size + 1, k, none⟩) (by simp) _, by rw [World.cell?_setCell_other w' ⟨w.heap.size + 1, k, none⟩ ⟨w.heap.size, 3, none⟩ _ (by simp)]; exact kk2, by simpa using hsz3⟩
      case measure => simp [intOf]; omega
    · go_wp2
      go_ret
      have e : k = n := by omega
      subst e
      refine ⟨_, rfl, ?_, hb⟩
      simpa [knL] using hown

end Go.Proofs.YtkgkpcmokmhakaaGreatDoor
