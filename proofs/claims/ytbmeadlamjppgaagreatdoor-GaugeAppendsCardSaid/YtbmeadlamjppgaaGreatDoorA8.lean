/-
  GaugeAppends (P1.4): for every two records, Append answers as the document says. Conditions: the row's own (the listed library tables as the program's text lays them, tied by the card).
-/
import Derived.Test.YtbmeadlamjppgaaGreatDoorRows
import Derived.Test.YtbmeadlamjppgaaGreatDoorCards
import Derived.Test.YtbmeadlamjppgaaGreatDoorTie
import Derived.Test.YtbmeadlamjppgaaGreatDoorRow
import Derived.SevenTiedAt
import Derived.Test.YtbmeadlamjppgaaGreatDoorOpm
import Derived.Test.YtbmeadlamjppgaaGreatDoorA7
import Derived.Test.YtbmeadlamjppgaaGreatDoorA5
import Derived.Test.YtbmeadlamjppgaaGreatDoorA2
import Derived.Test.YtbmeadlamjppgaaGreatDoorA1
import Derived.Test.YtbmeadlamjppgaaGreatDoorP0
import Derived.Test.YtbmeadlamjppgaaGreatDoorT0
import Derived.Test.YtbmeadlamjppgaaGreatDoorT1
import Derived.Test.YtbmeadlamjppgaaGreatDoorEK
import Derived.Test.YtbmeadlamjppgaaGreatDoorQS
import Derived.Test.YtbmeadlamjppgaaGreatDoorMO
import Derived.Test.YtbmeadlamjppgaaGreatDoorM3
namespace Go.Proofs.YtbmeadlamjppgaaGreatDoor
open Go.RowKit
attribute [local go_sem] Oper.semAt_some

theorem sh_lensA {s n m : Nat} (h : shortR s n m = true) : n ≤ 4097 ∧ m ≤ 2049 := by
  unfold shortR at h
  simp only [Bool.and_eq_true, Bool.or_eq_true, decide_eq_true_eq] at h
  omega
theorem fst_twoA (a b : Int) : fst0 [a, b] = if a = 0 then b else a := by
  by_cases h : a = 0
  · simp only [fst0, h, if_true]
    split
    · rename_i h2; exact h2.symm
    · rfl
  · simp [fst0, h]
theorem str_same (s t : ByteArray) : (s.toList == t.toList) = decide (s = t) := by
  by_cases h : s = t
  · simp [h]
  · rw [decide_eq_false h, beq_eq_false_iff_ne]
    intro e
    rw [ByteArray.toList_eq, ByteArray.toList_eq] at e
    exact h (by cases s; cases t; simp only at e; congr 1; exact Array.toList_inj.1 e)
/-- What Append looks at, with the checks' own answers ahead. -/
theorem five_is (a b : Int) (nm nm2 : ByteArray) (st st2 : Int) (n m : Nat) (hst : 0 ≤ st ∧ st ≤ 100000) (hn : n ≤ 4096) :
    fst0 [a, b, unl (nm.toList == nm2.toList) 30, unl (st2 == wrap64 (st + (n : Int))) 11, Go.Proofs.YtbmeadlamjppgaaGreatDoor.most ((n : Int) + (m : Int)) 4096] = if fst0 [a, b] = 0 then chkApp nm nm2 st st2 n m else fst0 [a, b] := by
  have hw : wrap64 (st + (n : Int)) = st + n := by unfold wrap64; omega
  rw [str_same, hw, fst_twoA]
  unfold chkApp
  by_cases h1 : a = 0
  · by_cases h2 : b = 0
    · subst h1 h2
      by_cases h3 : nm = nm2
      · by_cases h4 : st2 = st + n
        · by_cases h5 : n + m ≤ 4096
          · have h6 : (n : Int) + (m : Int) ≤ 4096 := by omega
            simp [fst0, unl, h3, h4, h5, Go.Proofs.YtbmeadlamjppgaaGreatDoor.most, h6]
          · have h6 : ¬ (n : Int) + (m : Int) ≤ 4096 := by omega
            simp [fst0, unl, h3, h4, h5, Go.Proofs.YtbmeadlamjppgaaGreatDoor.most, h6]
        · simp [fst0, unl, h3, h4]
      · simp [fst0, unl, h3]
    · simp [fst0, h1, h2]
  · simp [fst0, h1]
theorem bad_is (a b c d e : Int) (h : fst0 [a, b] ≠ 0) : fst0 [a, b, c, d, e] = fst0 [a, b] := by
  rw [fst_twoA] at h ⊢
  by_cases h1 : a = 0
  · by_cases h2 : b = 0
    · simp [h1, h2] at h
    · simp [fst0, h1, h2]
  · simp [fst0, h1]
/-- A level that is missing in a valid record is 0. -/
theorem quiet_at {nm : ByteArray} {st : Int} {bs : List Nat} {gs : List (Int × Int)} (V : Valid nm st bs gs) (i : Nat) (h : hasL gs (i : Int) = true) : feqL (bs.getD i 0) 0 = true := by
  obtain ⟨s, hs, h1, h2⟩ := hasL_true.1 h
  obtain ⟨j, hj, rfl⟩ := List.mem_iff_getElem.1 hs
  have := V.silent j hj i (by simpa [hj] using h1) (by simpa [hj] using h2)
  unfold feqL
  simpa using this
theorem apLev (nm nm2 : ByteArray) (st st2 : Int) (bs cs : List Nat) (gs hs : List (Int × Int)) (V : Valid nm st bs gs) (V2 : Valid nm2 st2 cs hs) (hl : ∀ i, i < bs.length → chkLev (bs.getD i 0) = 0) (hl2 : ∀ i, i < cs.length → chkLev (cs.getD i 0) = 0) :
    sameF feqL 0 (bs ++ cs) (asmK (bs ++ cs) (thereL gs hs bs.length cs.length) (bs ++ cs).length) = true := by
  refine sameF_yes feqL 0 _ _ (asmK_len _ _ _).symm fun j hj => ?_
  rw [asmK_at _ _ j hj]
  have hj' : j < bs.length + cs.length := by simpa using hj
  by_cases h1 : j < bs.length
  · have e1 : (bs ++ cs).getD j 0 = bs.getD j 0 := by simp [List.getElem?_append, h1]
    have e2 : (thereL gs hs bs.length cs.length).getD j false = !hasL gs (j : Int) := by simp [thereL, List.getElem?_append, h1]
    rw [e1, e2]
    cases h : hasL gs (j : Int)
    · simp only [Bool.not_false, if_true]
      exact feq_self (hl j h1)
    · simp only [Bool.not_true, Bool.false_eq_true, if_false]
      exact quiet_at V j h
  · have h2 : j - bs.length < cs.length := by omega
    have e1 : (bs ++ cs).getD j 0 = cs.getD (j - bs.length) 0 := by simp [List.getElem?_append, h1]
    have e2 : (thereL gs hs bs.length cs.length).getD j false = !hasL hs ((j - bs.length : Nat) : Int) := by simp [thereL, List.getElem?_append, h1, h2]
    rw [e1, e2]
    cases h : hasL hs ((j - bs.length : Nat) : Int)
    · simp only [Bool.not_false, if_true]
      exact feq_self (hl2 _ h2)
    · simp only [Bool.not_true, Bool.false_eq_true, if_false]
      exact quiet_at V2 _ h
theorem none_of {A : Option Addr} {n c : Nat} (f : Full (.slice A n c)) : A = none → n = 0 ∧ c = 0 := fun e => by
  rcases f with h | ⟨ad, n', c', h⟩
  · injection h with e1 e2 e3; exact ⟨e2, e3⟩
  · injection h with e1 e2 e3; rw [e] at e1; cases e1

set_option maxRecDepth 1000000 in
set_option maxHeartbeats 4000000 in
theorem appends_long (HA : Hid Awake) (nm nm2 : ByteArray) (st st2 : Int) (A A2 B B2 : Option Addr) (c c2 d d2 : Nat) (bs cs : List Nat) (gs hs : List (Int × Int)) (w : World) (h : shortR nm.size bs.length gs.length = false ∨ shortR nm2.size cs.length hs.length = false) :
    Calls Tryz.prog 5 #[.agg #[.string nm, .int .i64 st, .slice A bs.length c, .slice A2 gs.length c2], .agg #[.string nm2, .int .i64 st2, .slice B cs.length d, .slice B2 hs.length d2]] w fun e w' => e = .returned (.bool true) ∧ Below w.heap.size w w' := by
  have hb1 := ((Below.refl w.heap.size w).alloc (Nat.le_refl _) (Obj.cells #[.string nm, .int .i64 st, .slice A bs.length c, .slice A2 gs.length c2] 25)).alloc (by simp) (Obj.cells #[.string nm2, .int .i64 st2, .slice B cs.length d, .slice B2 hs.length d2] 25)
  have HQ := hd (show ((w.alloc (Obj.cells #[.string nm, .int .i64 st, .slice A bs.length c, .slice A2 gs.length c2] 25)).alloc (Obj.cells #[.string nm2, .int .i64 st2, .slice B cs.length d, .slice B2 hs.length d2] 25)).heap[w.heap.size]? = some (.cells #[.string nm, .int .i64 st, .slice A bs.length c, .slice A2 gs.length c2] 25 (0, 0)) from (Below.heap_alloc _ _ _ (by simp)).trans (blk_new _ _ _))
  have HQ2 := hd (show ((w.alloc (Obj.cells #[.string nm, .int .i64 st, .slice A bs.length c, .slice A2 gs.length c2] 25)).alloc (Obj.cells #[.string nm2, .int .i64 st2, .slice B cs.length d, .slice B2 hs.length d2] 25)).heap[w.heap.size + 1]? = some (.cells #[.string nm2, .int .i64 st2, .slice B cs.length d, .slice B2 hs.length d2] 25 (0, 0)) from by have h := blk_new (w.alloc (Obj.cells #[.string nm, .int .i64 st, .slice A bs.length c, .slice A2 gs.length c2] 25)) #[.string nm2, .int .i64 st2, .slice B cs.length d, .slice B2 hs.length d2] 25; rw [World.size_alloc] at h; exact h)
  have HB := hd hb1
  clear hb1
  go_enter Tryz.func5, Tryz.ntmps5
  go_wp2_with fail
  generalize ((w.alloc (Obj.cells #[.string nm, .int .i64 st, .slice A bs.length c, .slice A2 gs.length c2] 25)).alloc (Obj.cells #[.string nm2, .int .i64 st2, .slice B cs.length d, .slice B2 hs.length d2] 25)) = W1 at *
  refine (HA.out _).mono ?_
  rintro e w1 ⟨rfl, hb⟩
  replace HQ := hd ((hb.block _ (blk_lt HQ.out)).trans HQ.out)
  replace HQ2 := hd ((hb.block _ (blk_lt HQ2.out)).trans HQ2.out)
  replace HB := hd (HB.out.trans (hb.mono (HB.out.size)))
  clear hb
  have k0 := blk_cell HQ.out 0
  have k1 := blk_cell HQ.out 1
  have k2 := blk_cell HQ.out 2
  have k3 := blk_cell HQ.out 3
  simp at k0 k1 k2 k3
  cases hS : shortR nm.size bs.length gs.length
  · have S1 := hd hS
    clear h hS
    go_wp2_with fail
    refine (short_any nm st A A2 bs.length c gs.length c2 _).mono ?_
    rw [S1.out]
    rintro e w2 ⟨rfl, hb⟩
    replace HB := hd (HB.out.trans (hb.mono (HB.out.size)))
    clear hb k0 k1 k2 k3
    go_wp2_with fail
    refine (HA.out _).mono ?_
    rintro e w3 ⟨rfl, hb⟩
    replace HB := hd (HB.out.trans (hb.mono (HB.out.size)))
    clear hb
    go_wp2_with fail
    go_returns
    exact ⟨rfl, HB.out⟩
  · have S1 := hd hS
    have S2 := hd (show shortR nm2.size cs.length hs.length = false from h.resolve_left (by rw [hS]; simp))
    clear h hS
    go_wp2_with fail
    refine (short_any nm st A A2 bs.length c gs.length c2 _).mono ?_
    rw [S1.out]
    rintro e w2 ⟨rfl, hb⟩
    replace HB := hd (HB.out.trans (hb.mono (HB.out.size)))
    replace HQ2 := hd ((hb.block _ (blk_lt HQ2.out)).trans HQ2.out)
    clear hb k0 k1 k2 k3
    have k0 := blk_cell HQ2.out 0
    have k1 := blk_cell HQ2.out 1
    have k2 := blk_cell HQ2.out 2
    have k3 := blk_cell HQ2.out 3
    simp at k0 k1 k2 k3
    go_wp2_with fail
    refine (short_any nm2 st2 B B2 cs.length d hs.length d2 _).mono ?_
    rw [S2.out]
    rintro e w3 ⟨rfl, hb⟩
    replace HB := hd (HB.out.trans (hb.mono (HB.out.size)))
    clear hb k0 k1 k2 k3
    go_wp2_with fail
    refine (HA.out _).mono ?_
    rintro e w4 ⟨rfl, hb⟩
    replace HB := hd (HB.out.trans (hb.mono (HB.out.size)))
    clear hb
    go_wp2_with fail
    go_returns
    exact ⟨rfl, HB.out⟩

theorem appends_all (HA : Hid Awake) (nm nm2 : ByteArray) (st st2 : Int) (lv gv mv hv : Value) (bs cs : List Nat) (gs hs : List (Int × Int)) (w : World) (hl : Rd w w.heap.size lv bs.length (flc bs)) (hg : Rd w w.heap.size gv gs.length (spc gs)) (hl2 : Rd w w.heap.size mv cs.length (flc cs)) (hg2 : Rd w w.heap.size hv hs.length (spc hs)) (fl : Full lv) (fg : Full gv) (fl2 : Full mv) (fg2 : Full hv) (hs1 : nm.size ≤ maxLen) (hs2 : nm2.size ≤ maxLen) :
    Calls Tryz.prog 5 #[.agg #[.string nm, .int .i64 st, lv, gv], .agg #[.string nm2, .int .i64 st2, mv, hv]] w fun e w' => e = .returned (.bool true) ∧ Below w.heap.size w w' := by
  obtain ⟨A, c, rfl, -⟩ := id hl
  obtain ⟨A2, c2, rfl, -⟩ := id hg
  obtain ⟨B, d, rfl, -⟩ := id hl2
  obtain ⟨B2, d2, rfl, -⟩ := id hg2
  cases h1 : shortR nm.size bs.length gs.length
  · exact appends_long HA nm nm2 st st2 A A2 B B2 c c2 d d2 bs cs gs hs w (.inl h1)
  · cases h2 : shortR nm2.size cs.length hs.length
    · exact appends_long HA nm nm2 st st2 A A2 B B2 c c2 d d2 bs cs gs hs w (.inr h2)
    · have hn := sh_lensA h1
      have hn2 := sh_lensA h2
      have CR1 := hd (fun (W : World) (lv gv : Value) (h : Rd W W.heap.size lv bs.length (flc bs)) (h' : Rd W W.heap.size gv gs.length (spc gs)) => refRec_any nm st lv gv bs gs W h h' hs1)
      have CR2 := hd (fun (W : World) (lv gv : Value) (h : Rd W W.heap.size lv cs.length (flc cs)) (h' : Rd W W.heap.size gv hs.length (spc hs)) => refRec_any nm2 st2 lv gv cs hs W h h' hs2)
      have HN := hd (show bs.length ≤ 100000 ∧ gs.length ≤ 100000 ∧ cs.length ≤ 100000 ∧ hs.length ≤ 100000 by omega)
      have GB : ∀ E, fst0 [chkRec nm st bs gs, chkRec nm2 st2 cs hs, unl (nm.toList == nm2.toList) 30, unl (st2 == wrap64 (st + (bs.length : Int))) 11, Go.Proofs.YtbmeadlamjppgaaGreatDoor.most ((bs.length : Int) + (cs.length : Int)) 4096] = E → (E != 0) = true → Hid (∀ (W : World) (u1 u2 u3 u4 : Value), Rd W W.heap.size u1 bs.length (flc bs) → Rd W W.heap.size u2 gs.length (spc gs) → Rd W W.heap.size u3 cs.length (flc cs) → Rd W W.heap.size u4 hs.length (spc hs) → Full u1 → Full u3 → Calls Tryz.prog 26 #[.agg #[.string nm, .int .i64 st, u1, u2], .agg #[.string nm2, .int .i64 st2, u3, u4]] W (fun e w' => e = .returned (.tuple #[.agg #[.string ⟨#[]⟩, .int .i64 0, .slice none 0 0, .slice none 0 0], .int .i64 E]) ∧ Below W.heap.size W w')) := fun E hE h0 => hd (fun W u1 u2 u3 u4 r1 r2 r3 r4 _ _ => by
        obtain ⟨A, c, rfl, -⟩ := id r1
        obtain ⟨A2, c2, rfl, -⟩ := id r2
        obtain ⟨B, d, rfl, -⟩ := id r3
        obtain ⟨B2, d2, rfl, -⟩ := id r4
        exact append_bad nm nm2 st st2 A A2 B B2 c c2 d d2 bs cs gs hs E W (hd r1) (hd r2) (hd r3) (hd r4) hs1 hs2 HN.out.1 HN.out.2.2.1 hE h0)
      by_cases hE : fst0 [chkRec nm st bs gs, chkRec nm2 st2 cs hs] = 0
      · have e1 : chkRec nm st bs gs = 0 := by
          rw [fst_twoA] at hE
          split at hE
          · assumption
          · exact hE
        have e2 : chkRec nm2 st2 cs hs = 0 := by rw [fst_twoA, if_pos e1] at hE; exact hE
        obtain ⟨V, hC, hlv⟩ := valid_of e1 hs1
        obtain ⟨V2, hC2, hlv2⟩ := valid_of e2 hs2
        have h5 := five_is (chkRec nm st bs gs) (chkRec nm2 st2 cs hs) nm nm2 st st2 bs.length cs.length V.start V.most
        rw [if_pos hE] at h5
        have CA := hd (fun (W : World) => refCheckAppend_any nm nm2 st st2 A A2 B B2 bs.length c gs.length c2 cs.length d hs.length d2 W V.start V.most V2.most)
        by_cases hx : chkApp nm nm2 st st2 bs.length cs.length = 0
        · have he : ∀ s ∈ gs, s.2 ≤ (bs.length : Int) := fun s hs => by
            obtain ⟨j, hj, rfl⟩ := List.mem_iff_getElem.1 hs
            have := V.ends j hj
            simpa [hj] using this
          have he2 : ∀ s ∈ hs, s.2 ≤ (cs.length : Int) := fun s hs => by
            obtain ⟨j, hj, rfl⟩ := List.mem_iff_getElem.1 hs
            have := V2.ends j hj
            simpa [hj] using this
          have hap := apK_str gs hs bs.length cs.length V.spans V2.spans he he2
          have hsp2 := chkSpans_ok hs V2.spans
          have hsp1 := chkSpans_ok gs V.spans
          have HSP := hd (show ∀ j, j < hs.length → 0 ≤ (hs.getD j (0, 0)).1 ∧ (hs.getD j (0, 0)).1 ≤ 10000 ∧ 0 ≤ (hs.getD j (0, 0)).2 ∧ (hs.getD j (0, 0)).2 ≤ 10000 from fun j hj => by
            have hm := getD_mem hs j hj
            have := hsp2.2.1 _ hm
            have := he2 _ hm
            have := V2.most
            omega)
          have GA := hd (fun (W : World) (u1 u2 u3 u4 : Value) (r1 : Rd W W.heap.size u1 bs.length (flc bs)) (r2 : Rd W W.heap.size u2 gs.length (spc gs)) (r3 : Rd W W.heap.size u3 cs.length (flc cs)) (r4 : Rd W W.heap.size u4 hs.length (spc hs)) (f1 : Full u1) (f3 : Full u3) => show Calls Tryz.prog 26 #[.agg #[.string nm, .int .i64 st, u1, u2], .agg #[.string nm2, .int .i64 st2, u3, u4]] W (GotA nm st (bs ++ cs) (strF ((thereL gs hs bs.length cs.length).map (!·)) (thereL gs hs bs.length cs.length).length) W) from by
            obtain ⟨A, c, rfl, -⟩ := id r1
            obtain ⟨A2, c2, rfl, -⟩ := id r2
            obtain ⟨B, d, rfl, -⟩ := id r3
            obtain ⟨B2, d2, rfl, -⟩ := id r4
            refine (append_ok nm nm2 st st2 A A2 B B2 c c2 d d2 bs cs gs hs W (hd r1) (hd r2) (hd r3) (hd r4) hs1 hs2 (hd (none_of f1)) (hd (none_of f3)) hsp1.1 hsp2.1 HSP V.most V2.most (h5.trans hx)).mono ?_
            rintro e w' ⟨LV, GV, rfl, q1, q2, hb⟩
            refine ⟨LV, GV, rfl, ?_, ?_, hb⟩
            · rw [List.length_append, flc_append]; exact q1
            · rw [thereL_len, ← hap]; exact q2)
          have RA := hd (fun (W : World) (r1 : Rd W W.heap.size (.slice A bs.length c) bs.length (flc bs)) (r2 : Rd W W.heap.size (.slice A2 gs.length c2) gs.length (spc gs)) (r3 : Rd W W.heap.size (.slice B cs.length d) cs.length (flc cs)) (r4 : Rd W W.heap.size (.slice B2 hs.length d2) hs.length (spc hs)) => refAppend_any nm nm2 st st2 A B _ _ c d bs cs gs hs W r1 r2 r3 r4 (none_of fl) (none_of fl2) V.most V2.most)
          exact appends_ok HA nm nm2 st st2 A A2 B B2 c c2 d d2 bs cs _ _ gs hs _ _ _ 0 _ w (hd hl) (hd hg) (hd hl2) (hd hg2) (hd fl) (hd fg) (hd fl2) (hd fg2) (hd h1) (hd h2) HN CR1 CR2 (hd hE) rfl GA CA (by simpa using hx) RA (hd (apLev nm nm2 st st2 bs cs gs hs V V2 hlv hlv2))
        · have h0 : (chkApp nm nm2 st st2 bs.length cs.length != 0) = true := by simpa using hx
          exact appends_b2 HA nm nm2 st st2 A A2 B B2 c c2 d d2 bs cs gs hs _ _ 0 _ w (hd hl) (hd hg) (hd hl2) (hd hg2) (hd fl) (hd fg) (hd fl2) (hd fg2) (hd h1) (hd h2) HN CR1 CR2 (hd hE) rfl (GB _ h5 h0) CA (by simpa using hx) h0
      · have h0 : (fst0 [chkRec nm st bs gs, chkRec nm2 st2 cs hs] != 0) = true := by simpa using hE
        exact appends_b1 HA nm nm2 st st2 A A2 B B2 c c2 d d2 bs cs gs hs _ _ _ w (hd hl) (hd hg) (hd hl2) (hd hg2) (hd fl) (hd fg) (hd fl2) (hd fg2) (hd h1) (hd h2) HN CR1 CR2 (hd rfl) (by simpa using hE) (GB _ (bad_is _ _ _ _ _ hE) h0) h0
end Go.Proofs.YtbmeadlamjppgaaGreatDoor

namespace Go.Proofs.YtbmeadlamjppgaaGreatDoor
open Go Go.ChangeShapes Go.WideShapes Go.ChangeAt Go.RowKit Go.Joins
open Go.ChangeMaps (open_string)
set_option linter.constructorNameAsVariable false

set_option maxRecDepth 1000000 in
/-- The start that the door's own run leaves meets the row's condition on the listed variables. -/
theorem gaugeAppends_met (os : Os) (args : Array Value) : laidMetH Tryz.prog Rows.gaugeAppendsRow.laid ((World.doorLaid Tryz.prog 24 os).forCall (fun _ _ => 0) ⟨#[], args, []⟩).memory :=
  laidMetH_of_parts3 (fuel := 8) (laidMet_of_run' 8 (by kernel_rfl) (by kernel_rfl)) (by kernel_rfl) (by kernel_rfl)

set_option maxRecDepth 1000000 in
theorem gaugeAppends_lifted (os : Os) (started : os.Started) (H : Type) (enc : TypeId × Value → H) :
    ReturnsInHanded {} Tryz.checked os 5 .any (fun w args => (Rows.gaugeAppendsSpec.pre enc Tryz.prog Tryz.f5 [] false w args ∧ laidMetH Tryz.prog Rows.gaugeAppendsRow.laid w) ∧ sizedMet enc Tryz.prog Tryz.f5 (OpenSpec.ofChange Rows.gaugeAppendsSpec) false w args)
      (Rows.gaugeAppendsSpec.post enc Tryz.prog Tryz.f5 false true false false) := by
  refine returnsInHanded_of_change_and (C := Tryz.checked) (X := fun w _ => laidMetH Tryz.prog Rows.gaugeAppendsRow.laid w) (fun _ _ _ hh h => h.of_heap hh) own started (by kernel_rfl) Tryz.func5
    (ChangeSpec.witness_shaped (enc := enc) (C := Tryz.checked) (os := os) (X := fun w _ => laidMetH Tryz.prog Rows.gaugeAppendsRow.laid w) false (World.doorLaid Tryz.prog 24 os) #[.agg #[.string ⟨#[]⟩, .int .i64 0, .slice none 0 0, .slice none 0 0], .agg #[.string ⟨#[]⟩, .int .i64 0, .slice none 0 0, .slice none 0 0]] 8 rfl (World.shaped_of_RefB (by kernel_rfl) (by kernel_rfl)) (by kernel_rfl) (by kernel_rfl) (by kernel_rfl) (gaugeAppends_met os _)) ?_
  intro W base args ds gs before hval0 hW _ hsz hL _
  have hval : ∀ (j : Nat) t v, Tryz.f5.params[j]? = some t → args[j]? = some v → Value.okWide Tryz.prog W .any base t v := hval0
  have hW' := hW
  obtain ⟨p, q, hA0, hV, rfl, hfz, hnd⟩ := hW
  have hA : DataW.TrodAll enc Tryz.prog W 0 (fun _ => true) true Tryz.f5.params.toList args.toList ds p := hA0
  rw [Tryz.params5] at hA hval
  obtain ⟨rfl, rfl⟩ := trodVars_none hV
  obtain ⟨v0, v1, d0, d1, p0, p1, rfl, rfl, rfl, h0, h1⟩ := trodAll_two hA
  obtain ⟨c0, c1, c2, c3, y0, y1, y2, y3, m0, rfl, rfl, rfl, hy0, hy1, hy2, hy3⟩ := open_agg4 Tryz.underlying25 (by kernel_rfl) (show Tryz.prog.cellsOf 25 = 4 by kernel_rfl) (hval 0 25 v0 rfl rfl) h0
  obtain ⟨nm, k00, -, hs⟩ := DataW.trod_string Tryz.underlying9 hy0
  obtain ⟨st, k01, -⟩ := DataW.trod_int Tryz.underlying3 hy1
  obtain ⟨bs, al, afl⟩ := open_levels hy2
  obtain ⟨gs, ag, afg⟩ := open_gaps hy3
  obtain ⟨b0, b1, b2, b3, z0, z1, z2, z3, m1, rfl, rfl, rfl, hz0, hz1, hz2, hz3⟩ := open_agg4 Tryz.underlying25 (by kernel_rfl) (show Tryz.prog.cellsOf 25 = 4 by kernel_rfl) (hval 1 25 v1 rfl rfl) h1
  obtain ⟨nm2, k10, -, hs2⟩ := DataW.trod_string Tryz.underlying9 hz0
  obtain ⟨st2, k11, -⟩ := DataW.trod_int Tryz.underlying3 hz1
  obtain ⟨cs, bl, bfl⟩ := open_levels hz2
  obtain ⟨hs0, bg, bfg⟩ := open_gaps hz3
  simp at k00 k01 k10 k11
  subst k00 k01 k10 k11
  refine (appends_all (hd awake_any) nm nm2 st st2 c2 c3 b2 b3 bs cs gs hs0 W al ag bl bg afl afg bfl bfg hs hs2).mono ?_
  rintro e W' ⟨rfl, hB⟩
  exact ⟨_, rfl, law_post rfl rfl rfl rfl rfl (fun t ht => by
    have hm : t ∈ [25, 25] := by simpa [Tryz.params5] using ht
    have hall : ([25, 25].all fun u => Tryz.prog.readableRec u && decide (u < Tryz.prog.types.size)) = true := by kernel_rfl
    simpa using List.all_eq_true.1 hall t hm) hW' hB⟩

set_option maxRecDepth 1000000 in
theorem gaugeAppends_holds : Rows.GaugeAppendsSaid :=
  OpenClaim.holds_of_wide 5 Tryz.f5 rfl rfl rfl rfl rfl rfl rfl ⟨rfl, rfl, rfl, rfl, rfl⟩ rfl rfl rfl rfl rfl (by kernel_rfl) Tryz.func5 (by kernel_rfl)
    (of_decide_eq_true (by kernel_rfl)) (by unfold Func.isWrapper; first | (rw [if_pos (by decide +kernel)]; kernel_rfl) | (rw [if_neg (by decide +kernel)]; exact ⟨rfl, rfl⟩))
    (fun os started H enc _ => gaugeAppends_lifted os started H enc)

set_option maxRecDepth 1000000 in
theorem gaugeAppends_card : Rows.GaugeAppendsCardSaid :=
  Claim7.holds_tied_plain_at .later [] [.data, .data, .data] true (true, "a2ac7721fc906230f79feafd50f46457db167e4d414d7038bf9df98469f3c56c") false
    gaugeAppends_holds (fun _ h => by cases h) (by kernel_rfl) (fun _ h => by cases h) gaugeAppends_row_tie rfl ⟨rfl, rfl⟩ (by kernel_rfl) rfl
    (fun f fn hf hfn => by
      obtain rfl : f = 5 := Option.some.inj ((show Tryz.prog.funcNamed "tideway/tidewaylaw01.GaugeAppends" = some 5 by kernel_rfl).symm.trans hf) |>.symm
      obtain rfl : fn = Tryz.f5 := (Option.some.inj (Tryz.func5.symm.trans hfn)).symm
      exact ⟨by kernel_rfl, fun j t ht => by
        rw [Tryz.params5] at ht
        have hm : t ∈ [25, 25] := by simpa using Array.mem_of_getElem? ht
        have hall : ([25, 25].all fun u => !Tryz.prog.wantsStandIn u) = true := by kernel_rfl
        exact (show Tryz.prog.wantsStandIn t = false by simpa using List.all_eq_true.1 hall t hm)⟩)
    (by kernel_rfl)
end Go.Proofs.YtbmeadlamjppgaaGreatDoor
