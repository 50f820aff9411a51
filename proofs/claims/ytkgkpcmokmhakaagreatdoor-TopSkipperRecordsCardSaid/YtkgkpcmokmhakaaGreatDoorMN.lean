/-
  Contract of gauge.apply. Conditions: a valid record, valid rules.
  Contract of gauge.combine, given what gauge.ends gives. Conditions: two valid lists of spans.
  Contract of gauge.ends for two lists of spans. Condition: at most 4000 spans each.
  Contracts of gauge.Join, Meet and Minus. Conditions: two valid lists of spans, the result of at most 2048 spans.
-/
import Derived.Test.YtkgkpcmokmhakaaGreatDoorProg
import Derived.Test.YtkgkpcmokmhakaaGreatDoorK4
import Derived.Test.YtkgkpcmokmhakaaGreatDoorME
import Derived.Test.YtkgkpcmokmhakaaGreatDoorMF
import Derived.Test.YtkgkpcmokmhakaaGreatDoorShelfB
import Derived.Sort.OwnSortedInts

namespace Go.Proofs.YtkgkpcmokmhakaaGreatDoor
open Go.RowKit

theorem fst0_zero : ∀ (l : List Int), fst0 l = 0 → ∀ j, l.getD j 0 = 0
  | [], _, j => by simp
  | x :: l, h, j => by
    rw [fst0] at h
    by_cases hx : x = 0
    · rw [if_pos hx] at h
      cases j with
      | zero => simpa using hx
      | succ j => simpa using fst0_zero l h j
    · rw [if_neg hx] at h; exact absurd h hx

/-- What apply gives back. -/
def Applied (base : Nat) (nm : ByteArray) (st : Int) (s : AS) (w : World) (e : Ending) (w' : World) : Prop :=
  ∃ lv gv xv, e = .returned (.tuple #[.agg #[.string nm, .int .i64 st, lv, gv], xv, .int .i64 0]) ∧ w'.ownsRow base 60 1 lv s.1.length (flc s.1) ∧ w'.ownsRow base 50 2 gv s.2.1.length (spc s.2.1) ∧ w'.ownsRow base 3 1 xv s.2.2.length (s.2.2.map (Value.int .i64)) ∧ Below base w w'

/-- The function that a valid rule removes by. -/
def remF (x : Ru) : Nat := bif x.1 == sRange then 93 else bif x.1 == sJump then 95 else 97
def chkF (x : Ru) : Nat := bif x.1 == sRange then 92 else bif x.1 == sJump then 94 else 96
theorem rule_kind (x : Ru) (h : chkRule x.1 x.2.1 x.2.2 = 0) : (kLook x.1).map (·.2) = some (kv (chkF x) (remF x)) := by
  unfold chkRule at h
  unfold kLook remF chkF
  cases h1 : x.1 == sRange
  · cases h2 : x.1 == sJump
    · cases h3 : x.1 == sStuck
      · rw [h1, h2, h3] at h; cases h
      · rfl
    · rfl
  · rfl
theorem remF_any (x : Ru) (h : chkRule x.1 x.2.1 x.2.2 = 0) (nm : ByteArray) (st : Int) (lv gv : Value) (bs : List Nat) (gs : List (Int × Int)) (w : World) (hl : Rd w w.heap.size lv bs.length (flc bs)) (hg : Rd w w.heap.size gv gs.length (spc gs)) (hasc : Asc gs) (hgs : gs.length ≤ 100000) (hbs : bs.length ≤ 100000) (hok : ∀ j, j < bs.length → levOK (bs.getD j 0) = true) :
    Calls Tryz.prog (remF x) #[.agg #[.string x.1, .int .i64 x.2.1, .int .i64 x.2.2], .agg #[.string nm, .int .i64 st, lv, gv]] w (OwnsIn w.heap.size (remv x bs gs) w) := by
  have h1 := callsIn_wide.1 (outside_in x.1 nm x.2.1 x.2.2 st lv gv bs gs w hl hg hasc hgs hbs hok)
  have h2 := callsIn_wide.1 (jumps_in x.1 nm x.2.1 x.2.2 st lv gv bs gs w hl hg hasc hgs hbs hok)
  have h3 := callsIn_wide.1 (stuck_in x.1 nm x.2.1 x.2.2 st lv gv bs gs w hl hg hasc hgs hbs hok)
  unfold chkRule at h
  unfold remF remv
  cases e1 : x.1 == sRange
  · cases e2 : x.1 == sJump
    · cases e3 : x.1 == sStuck
      · rw [e1, e2, e3] at h; cases h
      · exact h3
    · exact h2
  · exact h1

theorem remF_enter (x : Ru) : ∀ (args : Array Value) (w : World), (callFunc (remF x) args).run Tryz.prog w = .ok (.enter (remF x) args) w := by
  intro args w
  unfold remF
  cases x.1 == sRange
  · cases x.1 == sJump
    · kernel_rfl
    · kernel_rfl
  · kernel_rfl

/-- What the loop of apply keeps. -/
def AInv (B L M : Nat) (RV : Value) (nm : ByteArray) (st : Int) (s : AS) (W0 wr : World) (lv gv : Value) : Prop :=
  wr.heap[L]? = some (.cells #[.string nm, .int .i64 st, lv, gv] 35 (0, 0)) ∧ wr.ownsRow B 60 1 lv s.1.length (flc s.1) ∧ wr.ownsRow B 50 2 gv s.2.1.length (spc s.2.1) ∧
  wr.ownsRow B 3 1 RV s.2.2.length (s.2.2.map (Value.int .i64)) ∧ wr.heap[M]? = some (.map kEs 3) ∧ Below B W0 wr
theorem own_lt_sz {w : World} {B : Nat} {e : TypeId} {size : Nat} {v : Value} {n : Nat} {xs : List Value} (h : w.ownsRow B e size v n xs) : v = .slice none 0 0 ∨ ∃ g, v.ownBlock = some g ∧ g < w.heap.size := by
  rcases h.2 with ⟨hv, h0⟩ | ⟨g, cap, cur, rfl, _, hh, _⟩
  · exact .inl hv
  · exact .inr ⟨g, rfl, blk_lt hh⟩
theorem own_bel {w w' : World} {B : Nat} {e : TypeId} {size : Nat} {v : Value} {n : Nat} {xs : List Value} (h : w.ownsRow B e size v n xs) (hb : Below w.heap.size w w') : w'.ownsRow B e size v n xs :=
  h.kept (below_gb hb none) (by
    rcases own_lt_sz h with hv | ⟨g, hg, _⟩
    · exact .inl (by rw [hv]; rfl)
    · exact .inr (by rw [hg]; simp))
theorem AInv.below {B L M : Nat} {RV : Value} {nm : ByteArray} {st : Int} {s : AS} {W0 wr wr' : World} {lv gv : Value} (h : AInv B L M RV nm st s W0 wr lv gv) (hB : B ≤ wr.heap.size) (hb : Below wr.heap.size wr wr') : AInv B L M RV nm st s W0 wr' lv gv := by
  obtain ⟨h1, h2, h3, h4, h5, h6⟩ := h
  exact ⟨(hb.block _ (blk_lt h1)).trans h1, own_bel h2 hb, own_bel h3 hb, own_bel h4 hb, (hb.block _ (blk_lt h5)).trans h5, h6.trans (hb.mono hB)⟩
theorem AInv.mark {B L M R c n : Nat} {nm : ByteArray} {st : Int} {bs : List Nat} {gs : List (Int × Int)} {rs : List Int} {W0 wr : World} {lv gv : Value} (h : AInv B L M (.slice (some ⟨R, 0, none⟩) n c) nm st (bs, gs, rs) W0 wr lv gv) (hn : rs.length = n) (hR : B ≤ R) (i : Nat) (x : Int) :
    AInv B L M (.slice (some ⟨R, 0, none⟩) n c) nm st (bs, gs, rs.set i x) W0 (wr.setCell ⟨R, i, none⟩ (.int .i64 x)) lv gv := by
  subst hn
  obtain ⟨h1, h2, h3, h4, h5, h6⟩ := h
  have hh : ∃ cur, wr.heap[R]? = some (.cells cur 3 (0, 0)) := by
    rcases h4.2 with ⟨hv, _⟩ | ⟨g, cap, cur, hv, _, hh, _⟩
    · cases hv
    · cases hv; exact ⟨_, hh⟩
  obtain ⟨cur, hh⟩ := hh
  have hst := h4.stored i (.int .i64 x)
  refine ⟨(Below.heap_setCell wr ⟨R, i, none⟩ _ L (fun e => ?_)).trans h1, h2.kept hst.2 (.inr (blk_not_row hh (by decide) h2).symm), h3.kept hst.2 (.inr (blk_not_row hh (by decide) h3).symm), ?_, (Below.heap_setCell wr ⟨R, i, none⟩ _ M (fun e => ?_)).trans h5, h6.setCell (p := ⟨R, i, none⟩) hR _⟩
  · have e : L = R := e
    subst e; rw [h1] at hh; cases hh
  · show (wr.setCell ⟨R, i, none⟩ (.int .i64 x)).ownsRow B 3 1 (.slice (some ⟨R, 0, none⟩) rs.length c) (rs.set i x).length ((rs.set i x).map (Value.int .i64))
    rw [List.length_set, List.map_set]; exact hst.1
  · have e : M = R := e
    subst e; rw [h5] at hh; cases hh
theorem AInv.left {B L M : Nat} {RV : Value} {nm : ByteArray} {st : Int} {bs bs' : List Nat} {gs gs' : List (Int × Int)} {rs : List Int} {W0 wr : World} {lv gv lv' gv' : Value} (h : AInv B L M RV nm st (bs, gs, rs) W0 wr lv gv) (hL : B ≤ L)
    (hl : wr.ownsRow B 60 1 lv' bs'.length (flc bs')) (hg : wr.ownsRow B 50 2 gv' gs'.length (spc gs')) :
    AInv B L M RV nm st (bs', gs', rs) W0 ((((wr.setCell ⟨L, 0, none⟩ (.string nm)).setCell ⟨L, 1, none⟩ (.int .i64 st)).setCell ⟨L, 2, none⟩ lv').setCell ⟨L, 3, none⟩ gv') lv' gv' := by
  obtain ⟨h1, h2, h3, h4, h5, h6⟩ := h
  have R7 := blk_set (blk_set (blk_set (blk_set h1 0 (.string nm)) 1 (.int .i64 st)) 2 lv') 3 gv'
  have k4 : ∀ {W : World} {cs : Array Value} {e : TypeId} {size : Nat} {v : Value} {n : Nat} {xs : List Value} (i : Nat) (u : Value), W.heap[L]? = some (.cells cs 35 (0, 0)) → 35 ≠ e → W.ownsRow B e size v n xs → (W.setCell ⟨L, i, none⟩ u).ownsRow B e size v n xs :=
    fun i u hh he ho => ho.kept (gb_set _ L i u) (.inr (blk_not_row hh he ho).symm)
  have b0 := h1
  have b1 := blk_set b0 0 (.string nm)
  have b2 := blk_set b1 1 (.int .i64 st)
  have b3 := blk_set b2 2 lv'
  have ml : M ≠ L := fun e => by subst e; rw [h1] at h5; cases h5
  refine ⟨by simpa using R7, k4 _ _ b3 (by decide) (k4 _ _ b2 (by decide) (k4 _ _ b1 (by decide) (k4 _ _ b0 (by decide) hl))), k4 _ _ b3 (by decide) (k4 _ _ b2 (by decide) (k4 _ _ b1 (by decide) (k4 _ _ b0 (by decide) hg))), k4 _ _ b3 (by decide) (k4 _ _ b2 (by decide) (k4 _ _ b1 (by decide) (k4 _ _ b0 (by decide) h4))), ?_, (((h6.setCell (p := ⟨L, 0, none⟩) hL _).setCell (p := ⟨L, 1, none⟩) hL _).setCell (p := ⟨L, 2, none⟩) hL _).setCell (p := ⟨L, 3, none⟩) hL _⟩
  rw [Below.heap_setCell _ _ _ _ ml, Below.heap_setCell _ _ _ _ ml, Below.heap_setCell _ _ _ _ ml, Below.heap_setCell _ _ _ _ ml]
  exact h5

set_option maxRecDepth 1000000 in
set_option maxHeartbeats 8000000 in
theorem apply_ok (nm : ByteArray) (st : Int) (lv gv rv : Value) (bs : List Nat) (gs : List (Int × Int)) (l : List Ru) (w : World) (hl : Rd w w.heap.size lv bs.length (flc bs)) (hg : Rd w w.heap.size gv gs.length (spc gs)) (hr : Rd w w.heap.size rv l.length (ruc l)) (V : Valid nm st bs gs) (h0 : chkRules l = 0) :
    Calls Tryz.prog 32 #[.agg #[.string nm, .int .i64 st, lv, gv], rv] w (Applied w.heap.size nm st (apF bs gs l l.length) w) := by
  obtain ⟨i0, hi, hz0, hz1, hz2⟩ := info_parts intInfo
  have HL := hd hl
  have HG := hd hg
  have HR := hd hr
  have hl2 := hl
  have hg2 := hg
  have hr2 := hr
  obtain ⟨A1, c1, rfl, hq1, hq2, -⟩ := hl2
  obtain ⟨A2, c2, rfl, -, -, -⟩ := hg2
  obtain ⟨A3, c3, rfl, hc1, hc2, -⟩ := hr2
  have HV := hd V
  have H0 := hd h0
  have h8 : l.length ≤ 8 := by
    unfold chkRules at h0
    split at h0
    · cases h0
    · omega
  have HRU := hd (show ∀ k, k < l.length → chkRule (l.getD k ru0).1 (l.getD k ru0).2.1 (l.getD k ru0).2.2 = 0 by
    intro k hk
    rw [← ruErr_at l k hk]
    unfold chkRules at h0
    rw [if_neg (by omega)] at h0
    exact fst0_zero _ h0 k)
  have hbn : bs.length ≤ 4096 := V.most
  unfold maxLen at hc2 hq2
  clear hl hg hr V h0
  go_enter Tryz.func32, Tryz.ntmps32
  go_wp2_with fail
  obtain ⟨W0, hW0⟩ : ∃ W0, W0 = ((w.alloc (.cells #[.string nm, .int .i64 st, .slice A1 bs.length c1, .slice A2 gs.length c2] 35)).alloc (.cells #[.string ⟨#[]⟩, .int .i64 0, .slice none 0 0, .slice none 0 0] 35)) := ⟨_, rfl⟩
  have hsz : W0.heap.size = w.heap.size + 2 := by rw [hW0]; simp
  have hb0 : Below w.heap.size w W0 := by rw [hW0]; exact ((Below.refl _ w).alloc (Nat.le_refl _) _).alloc (by simp) _
  have HRA := hd (show W0.heap[w.heap.size]? = some (.cells #[.string nm, .int .i64 st, .slice A1 bs.length c1, .slice A2 gs.length c2] 35 (0, 0)) by
    rw [hW0, Below.heap_alloc _ _ _ (by simp)]; exact blk_new _ _ _)
  have HRB := hd (show W0.heap[w.heap.size + 1]? = some (.cells #[.string ⟨#[]⟩, .int .i64 0, .slice none 0 0, .slice none 0 0] 35 (0, 0)) by
    have h1 := blk_new (w.alloc (.cells #[.string nm, .int .i64 st, .slice A1 bs.length c1, .slice A2 gs.length c2] 35)) #[.string ⟨#[]⟩, .int .i64 0, .slice none 0 0, .slice none 0 0] 35
    simp only [World.size_alloc] at h1
    rw [hW0]; exact h1)
  rw [← hW0]
  clear hW0
  have HRD := hd (fun (W : World) (hB : Below w.heap.size w W) => And.intro ((HL.out.below hB (Nat.le_refl _)).mono hB.size) (And.intro ((HG.out.below hB (Nat.le_refl _)).mono hB.size) ((HR.out.below hB (Nat.le_refl _)).mono hB.size)))
  refine (chkRec_ok nm st _ _ bs gs _ (HRD.out _ hb0).1 (HRD.out _ hb0).2.1 HV.out).mono ?_
  rintro e w1 ⟨rfl, hb1⟩
  go_wp2_with fail
  have hb01 := hb0.trans (hb1.mono hb0.size)
  refine (chkRules_any _ l _ (HRD.out _ hb01).2.2).mono ?_
  rintro e w2 ⟨rfl, hb2⟩
  rw [H0.out]
  have hb02 := hb1.trans (hb2.mono hb1.size)
  have hz := hd (show fst0 [0, 0] = 0 by simp [fst0])
  go_wp2_with (go_at_call 39; refine (first2 _ _ _ _).mono ?_; rintro e w' ⟨rfl, rfl⟩; rw [hz.out])
  have hb3 : Below W0.heap.size W0 (w2.alloc (Obj.cells #[.int .i64 0, .int .i64 0] 36)) := hb02.alloc hb02.size _
  generalize (w2.alloc (Obj.cells #[.int .i64 0, .int .i64 0] 36)) = w3 at hb3 ⊢
  refine (kinds_any _).mono ?_
  rintro e w4 ⟨rfl, hm4, hb4⟩
  have hM := blk_lt hm4
  have hM0 := hb3.size
  have hb04 := hb3.trans (hb4.mono hb3.size)
  have hRA := (hb04.block _ (show w.heap.size < W0.heap.size by omega)).trans HRA.out
  have y2 := blk_cell hRA 2
  simp at y2
  have HM4 := hd hm4
  have HB04 := hd hb04
  have hb04s := hb04.size
  have HBY := hd (show i0.bytes * bs.length ≤ 281474976710656 by rw [hz2]; omega)
  have HMX := hd (show bs.length ≤ maxLen by unfold maxLen; omega)
  clear hm4 hb1 hb2 hb3 hb4 hb01 hb02 hb04 hRA hz
  generalize hMM : w3.heap.size = M at *
  clear hMM
  go_wp2_with (at_make; refine wpList_make_full _ rfl (.tmp 29) (.tmp 29) 41 rfl W0.heap.size 3 i0 (.int .i64 0) 1 Tryz.underlying41 hi hz0 hz1 .i64 .i64 (bs.length : Int) (bs.length : Int) bs.length rfl rfl rfl rfl HBY.out HMX.out hb04s ?_; intro w5 hown5 hgrow5; have hb5 := HB04.out.grown hgrow5 hb04s (fun _ h => by cases h); have hRA5 := (hb5.block _ (show w.heap.size < W0.heap.size by omega)).trans HRA.out; have z0 := blk_cell hRA5 0; have z1 := blk_cell hRA5 1; have z2 := blk_cell hRA5 2; have z3 := blk_cell hRA5 3; simp at z0 z1 z2 z3; have HO5 := hd (And.intro hown5 (And.intro hgrow5 hb5)); clear hown5 hgrow5 hb5 hRA5)
  obtain ⟨hown5, hgrow5, hb5⟩ := HO5.out
  have hM5 := (hgrow5.block M (by omega) (by simp)).trans HM4.out
  have hbw5 := hb0.trans (hb5.mono hb0.size)
  have hgs : gs.length ≤ 100000 := Nat.le_trans (chkSpans_ok gs HV.out.spans).1 (by omega)
  have hown5' : w5.ownsRow W0.heap.size 3 1 (.slice (some ⟨w4.heap.size, 0, none⟩) bs.length bs.length) (List.replicate bs.length (0 : Int)).length ((List.replicate bs.length (0 : Int)).map (Value.int .i64)) := by
    have e : (madeCells (Value.int .i64 0).cells (bs.length * 1)).toList = List.replicate bs.length (Value.int .i64 0) := by
      rw [show (Value.int .i64 0).cells = #[Value.int .i64 0] from rfl, toList_madeCells_one]; simp
    rw [List.map_replicate, ← e, List.length_replicate]; exact hown5
  have hRb : W0.heap.size ≤ w4.heap.size := hb04s
  refine (without_any nm st _ _ (.slice none 0 0) bs gs [] w5 (HRD.out _ hbw5).1 (HRD.out _ hbw5).2.1 (Rd.nil _ _) (asc_of gs HV.out.spans) hgs (by omega) (fun j hj => absurd hj (by simp)) (by simp)).mono ?_
  rintro e w6 ⟨lv, gv, rfl, hol, hog, hb6⟩
  have hL6 := blk_new w6 #[.string nm, .int .i64 st, lv, gv] 35
  have hb67 : Below w5.heap.size w5 (w6.alloc (.cells #[.string nm, .int .i64 st, lv, gv] 35)) := hb6.alloc hb6.size _
  have HI := hd (show AInv W0.heap.size w6.heap.size M (.slice (some ⟨w4.heap.size, 0, none⟩) bs.length bs.length) nm st (apF bs gs l 0) W0 (w6.alloc (.cells #[.string nm, .int .i64 st, lv, gv] 35)) lv gv from
    ⟨hL6, own_base (hol.alloc _) hb5.size, own_base (hog.alloc _) hb5.size, own_bel hown5' hb67, (hb67.block _ (blk_lt hM5)).trans hM5, hb5.trans (hb67.mono hb5.size)⟩)
  have hLB : W0.heap.size ≤ w6.heap.size := Nat.le_trans hb5.size hb6.size
  obtain ⟨A5, c5, hv5, -⟩ := own_form hol
  obtain ⟨A6, c6, hv6, -⟩ := own_form hog
  have HVV := hd (And.intro hv5 hv6)
  clear hol hog hL6 hb67 hb6 hown5 hown5' hgrow5 hb5 hM5 hbw5 hv5 hv6
  obtain ⟨hv5, hv6⟩ := HVV.out
  subst hv5
  subst hv6
  have hM6 : M ≠ w6.heap.size := fun e => by
    have h1 := HI.out.1
    have h5 := HI.out.2.2.2.2.1
    rw [e, h1] at h5; cases h5
  have HOK := hd (fun k => apF_ok bs gs l HV.out.lev k)
  go_wp2
  go_loopw [35] (fun i wr => ∃ (k : Nat) (lv gv : Value), k ≤ l.length ∧ i = .int .i64 k ∧ Hid (AInv W0.heap.size w6.heap.size M (.slice (some ⟨w4.heap.size, 0, none⟩) bs.length bs.length) nm st (apF bs gs l k) W0 wr lv gv)) (fun i _ => l.length - (intOf i).toNat)
  case atStart => exact ⟨0, _, _, Nat.zero_le _, rfl, HI⟩
  case round =>
    clear HI HL HG HB04 HMX HBY HO5 y2 z0 z1 z2 z3
    obtain ⟨k, lv, gv, hk, rfl, HI⟩ := hrel
    have hB := HI.out.2.2.2.2.2
    have hBw : Below w.heap.size w wr := hb0.trans (hB.mono hb0.size)
    have hBs := hB.size
    have hLlt := blk_lt HI.out.1
    have hMlt := blk_lt HI.out.2.2.2.2.1
    have q0 := blk_cell HI.out.1 0
    have q1 := blk_cell HI.out.1 1
    have q2 := blk_cell HI.out.1 2
    have q3 := blk_cell HI.out.1 3
    simp at q0 q1 q2 q3
    obtain ⟨A7, c7, hv7, -⟩ := own_form HI.out.2.1
    obtain ⟨A8, c8, hv8, -⟩ := own_form HI.out.2.2.1
    subst hv7
    subst hv8
    by_cases hlt : k < l.length
    · obtain ⟨A', c', he, -, -, hcm⟩ := (HRD.out wr hBw).2.2
      cases he
      obtain ⟨b, off, rfl, hbb, hcell⟩ := hcm (by omega)
      obtain ⟨p0, p1, p2⟩ := ruc_getD l k hlt
      have hs0 := (hcell (k * 3) (by rw [ruc_len]; omega)).trans p0
      have hs1 := (hcell (k * 3 + 1) (by rw [ruc_len]; omega)).trans p1
      have hs2 := (hcell (k * 3 + 2) (by rw [ruc_len]; omega)).trans p2
      rw [← Nat.add_assoc] at hs1 hs2
      have hru := HRU.out k hlt
      have HAP := hd (show apF bs gs l (k + 1) = (woB (apF bs gs l k).1 (apF bs gs l k).2.1 (remN (l.getD k ru0) (apF bs gs l k).1 (apF bs gs l k).2.1), woG (apF bs gs l k).1 (apF bs gs l k).2.1 (remN (l.getD k ru0) (apF bs gs l k).1 (apF bs gs l k).2.1), rsK (apF bs gs l k).2.2 (remN (l.getD k ru0) (apF bs gs l k).1 (apF bs gs l k).2.1) ((k : Int) + 1) (remN (l.getD k ru0) (apF bs gs l k).1 (apF bs gs l k).2.1).length) from rfl)
      have hok := HOK.out k
      generalize l.getD k ru0 = x at hs0 hs1 hs2 hru HAP
      obtain ⟨kd, A, B⟩ := x
      simp only at hs0 hs1 hs2
      generalize apF bs gs l k = S at *
      obtain ⟨bs2, gs2, rs2⟩ := S
      simp only at hok
      obtain ⟨o1, o2, o3, o4, o5⟩ := hok
      have hb8 := hB.alloc hBs (Obj.cells #[.string kd, .int .i64 A, .int .i64 B] 34)
      have hlk := look_kEs (wr.alloc (Obj.cells #[.string kd, .int .i64 A, .int .i64 B] 34)) M kd false _ (zeroKind _) ((Below.heap_alloc wr _ M hMlt).trans HI.out.2.2.2.2.1)
      rw [rule_kind (kd, A, B) hru] at hlk
      simp only [kv, Option.getD_some, Bool.false_eq_true, if_false] at hlk
      have HRF := hd (remF_any (kd, A, B) hru nm st)
      have hIa := HI.out.below hBs ((Below.refl _ wr).alloc (Nat.le_refl _) (Obj.cells #[.string kd, .int .i64 A, .int .i64 B] 34))
      have HIA := hd hIa
      have d0 := fun o => cell_alloc_old (o := o) q0
      have d1 := fun o => cell_alloc_old (o := o) q1
      have d2 := fun o => cell_alloc_old (o := o) q2
      have d3 := fun o => cell_alloc_old (o := o) q3
      have HIL := hd (And.intro o1 (And.intro o2 (And.intro o3 (And.intro o4 o5))))
      have H3 := hd hb8
      clear hcell hcm p0 p1 p2 hru hB hBw hIa q0 q1 q2 q3 o1 o2 o3 o4 o5 hb8
      have hent := remF_enter (kd, A, B)
      generalize chkF (kd, A, B) = cf at *
      generalize remF (kd, A, B) = rf at *
      have hfld : ∀ W, (Instr.field 141 (.agg #[.func (.func cf) #[] #[], .func (.func rf) #[] #[]]) 1).run Tryz.prog W = .ok (.func (.func rf) #[] #[]) W := fun W => by kernel_rfl
      go_wp2_with fail
      refine (HRF.out _ _ bs2 gs2 _ ((rd_of_own HIA.out.2.1)) (rd_of_own HIA.out.2.2.1) HIL.out.2.2.1 (by have := HIL.out; omega) (by have := HIL.out; omega) (by rw [HIL.out.1]; exact HIL.out.2.1)).mono ?_
      rintro e w9 ⟨v, rfl, hov, hb9⟩
      have hI9 := HIA.out.below (show W0.heap.size ≤ (wr.alloc (Obj.cells #[.string kd, .int .i64 A, .int .i64 B] 34)).heap.size by simp; omega) hb9
      rw [remN_inc (kd, A, B) bs2 gs2 (by have := HIL.out; omega) (by rw [HIL.out.1]; exact HIL.out.2.1), ← remN_len] at hov
      have HLT := hd (remN_lt (kd, A, B) bs2 gs2 (by have := HIL.out; omega) (by rw [HIL.out.1]; exact HIL.out.2.1))
      have hil : (remN (kd, A, B) bs2 gs2).length ≤ 4096 := by rw [remN_len]; exact Nat.le_trans (remv_len _ _ _) (by have := HIL.out; omega)
      generalize remN (kd, A, B) bs2 gs2 = il at hov HAP HLT hil
      obtain ⟨A9, c9, rfl, hA9⟩ := own_form hov
      have hs9 := hb9.size
      have HA9 := hd hA9
      have HOV := hd (show w9.ownsRow wr.heap.size 3 1 (.slice A9 il.length c9) il.length (inc il) from own_base hov (by simp))
      have hRlt : w4.heap.size < wr.heap.size := (HI.out.2.2.2.1.lt _ rfl).2
      have hs9' : wr.heap.size ≤ w9.heap.size := by simp at hs9; omega
      have HI9 := hd (show AInv W0.heap.size w6.heap.size M (.slice (some ⟨w4.heap.size, 0, none⟩) bs.length bs.length) nm st (bs2, gs2, rsK rs2 il ((k : Int) + 1) 0) W0 w9 _ _ from hI9)
      clear hov hb9 hI9 hs9 hA9 d0 d1 d2 d3 hlk hent hfld HRF HIA hs0 hs1 hs2 H3
      go_wp2
      go_loopw [50] (fun i wq => ∃ j : Nat, j ≤ il.length ∧ i = .int .i64 j ∧ Hid (AInv W0.heap.size w6.heap.size M (.slice (some ⟨w4.heap.size, 0, none⟩) bs.length bs.length) nm st (bs2, gs2, rsK rs2 il ((k : Int) + 1) j) W0 wq (.slice A7 bs2.length c7) (.slice A8 gs2.length c8)) ∧ Hid (wq.ownsRow wr.heap.size 3 1 (.slice A9 il.length c9) il.length (inc il)) ∧ wr.heap.size ≤ wq.heap.size) (fun i _ => il.length - (intOf i).toNat)
      case atStart => exact ⟨0, Nat.zero_le _, rfl, HI9, HOV, hs9'⟩
      case round =>
        rename_i wq _
        obtain ⟨j, hj, rfl, HJ, HO, hsq⟩ := hrel
        by_cases hjl : j < il.length
        · obtain ⟨g9, rfl⟩ := HA9.out (by omega)
          have hi := HLT.out j hjl
          have hx := HO.out.cellAt j (by omega)
          rw [show (inc il)[j]? = some (.int .i64 ((il.getD j 0 : Nat) : Int)) by simp [inc, hjl]] at hx
          have HK := hd (rsK_succ rs2 il ((k : Int) + 1) j hjl)
          have hrl : (rsK rs2 il ((k : Int) + 1) j).length = bs.length := by rw [rsK_len _ _ _ _ hj]; exact HIL.out.2.2.2.2
          have hbl := HIL.out.1
          try simp only at hbl
          generalize il.getD j 0 = ix at hx hi HK
          have hrow := HJ.out.2.2.2.1
          simp only [hrl] at hrow
          have r1 := hrow.cellAt ix (by omega)
          have r2 := hrow.frozenAt ix
          clear hrow
          rw [show ((rsK rs2 il ((k : Int) + 1) j).map (Value.int .i64))[ix]? = some (.int .i64 ((rsK rs2 il ((k : Int) + 1) j).getD ix 0)) by simp [show ix < (rsK rs2 il ((k : Int) + 1) j).length by omega]] at r1
          generalize (rsK rs2 il ((k : Int) + 1) j).getD ix 0 = y1 at r1
          have HMK := hd (HJ.out.mark hrl hRb ix ((k : Int) + 1))
          have HO2 := hd (ownsRow_setCell_below HO.out (a := ⟨w4.heap.size, ix, none⟩) hRlt (.int .i64 ((k : Int) + 1)))
          have hix : ix < bs.length := by omega
          clear hbl hrl
          go_wp2
          go_roundw
          case rel => exact ⟨j + 1, by omega, by go_num, by rw [HK.out]; exact HMK, HO2, by simp; omega⟩
          case measure => simp [intOf]; omega
        · have hje : j = il.length := by omega
          subst hje
          have q0 := blk_cell HJ.out.1 0
          have q1 := blk_cell HJ.out.1 1
          have q2 := blk_cell HJ.out.1 2
          have q3 := blk_cell HJ.out.1 3
          simp at q0 q1 q2 q3
          go_wp2_with fail
          refine (without_any nm st _ _ _ bs2 gs2 il _ (rd_of_own HJ.out.2.1) (rd_of_own HJ.out.2.2.1) (rd_of_own HO.out) HIL.out.2.2.1 (by have := HIL.out; omega) (by have := HIL.out; omega) HLT.out (by omega)).mono ?_
          rintro e w10 ⟨lv', gv', rfl, hol, hog, hb10⟩
          have hJs := HJ.out.2.2.2.2.2.size
          have HI10 := hd (HJ.out.below hJs hb10)
          have HLF := hd (HI10.out.left hLB (own_base hol hJs) (own_base hog hJs))
          have x0 := blk_cell HI10.out.1 0
          have x1 := blk_cell HI10.out.1 1
          have x2 := blk_cell HI10.out.1 2
          have x3 := blk_cell HI10.out.1 3
          have xf := fun i => blk_frozen HI10.out.1 i
          simp at x0 x1 x2 x3
          obtain ⟨AL, cL, hvL, -⟩ := own_form hol
          obtain ⟨AG, cG, hvG, -⟩ := own_form hog
          subst hvL
          subst hvG
          clear hol hog hb10
          go_wp2
          go_roundw
          case rel => exact ⟨k + 1, _, _, by omega, by go_num, by rw [HAP.out]; exact HLF⟩
          case measure => simp [intOf]; omega
    · have hke : k = l.length := by omega
      subst hke
      have hok := HOK.out l.length
      have hR3 := (hB.block _ (show w.heap.size + 1 < W0.heap.size by omega)).trans HRB.out
      have x0 := blk_cell hR3 0
      have x1 := blk_cell hR3 1
      have x2 := blk_cell hR3 2
      have x3 := blk_cell hR3 3
      have xf := fun i => blk_frozen hR3 i
      simp at x0 x1 x2 x3
      have hl7 := HI.out.2.1
      have hg7 := HI.out.2.2.1
      have hr7 := HI.out.2.2.2.1
      have HAX := hd (And.intro hok.1 hok.2.2.2.2)
      generalize apF bs gs l l.length = S at *
      obtain ⟨bs2, gs2, rs2⟩ := S
      simp only at hl7 hg7 hr7
      obtain ⟨LV, hLV⟩ : ∃ v, v = Value.slice A7 bs2.length c7 := ⟨_, rfl⟩
      obtain ⟨GV, hGV⟩ : ∃ v, v = Value.slice A8 gs2.length c8 := ⟨_, rfl⟩
      have R7 := blk_set (blk_set (blk_set (blk_set hR3 0 (.string nm)) 1 (.int .i64 st)) 2 LV) 3 GV
      have z := fun i => blk_cell R7 i
      have z0 := z 0
      have z1 := z 1
      have z2 := z 2
      have z3 := z 3
      simp at z0 z1 z2 z3
      have hq : w.heap.size + 1 < W0.heap.size := by omega
      have k7 : ∀ {e : TypeId} {size : Nat} {v : Value} {n : Nat} {xs : List Value}, wr.ownsRow W0.heap.size e size v n xs → ((((wr.setCell ⟨w.heap.size + 1, 0, none⟩ (.string nm)).setCell ⟨w.heap.size + 1, 1, none⟩ (.int .i64 st)).setCell ⟨w.heap.size + 1, 2, none⟩ LV).setCell ⟨w.heap.size + 1, 3, none⟩ GV).ownsRow w.heap.size e size v n xs := fun ho =>
        own_base (ownsRow_setCell_below (ownsRow_setCell_below (ownsRow_setCell_below (ownsRow_setCell_below ho (a := ⟨w.heap.size + 1, 0, none⟩) hq (.string nm)) (a := ⟨w.heap.size + 1, 1, none⟩) hq (.int .i64 st)) (a := ⟨w.heap.size + 1, 2, none⟩) hq LV) (a := ⟨w.heap.size + 1, 3, none⟩) hq GV) (by omega)
      have L7 := k7 hl7
      have G7 := k7 hg7
      have X7 := k7 hr7
      have hp : w.heap.size ≤ w.heap.size + 1 := by omega
      have B7 := (((hBw.setCell (p := ⟨w.heap.size + 1, 0, none⟩) hp (.string nm)).setCell (p := ⟨w.heap.size + 1, 1, none⟩) hp (.int .i64 st)).setCell (p := ⟨w.heap.size + 1, 2, none⟩) hp LV).setCell (p := ⟨w.heap.size + 1, 3, none⟩) hp GV
      obtain ⟨W7, hW7⟩ : ∃ W7, W7 = (((wr.setCell ⟨w.heap.size + 1, 0, none⟩ (.string nm)).setCell ⟨w.heap.size + 1, 1, none⟩ (.int .i64 st)).setCell ⟨w.heap.size + 1, 2, none⟩ LV).setCell ⟨w.heap.size + 1, 3, none⟩ GV := ⟨_, rfl⟩
      rw [← hW7] at z0 z1 z2 z3 L7 G7 X7 B7
      have HLV := hd (And.intro hLV hGV)
      have HX7 := hd (And.intro L7 (And.intro G7 (And.intro X7 B7)))
      have HZ := hd (And.intro z0 (And.intro z1 (And.intro z2 z3)))
      have HW7 := hd hW7
      clear hR3 R7 z z0 z1 z2 z3 L7 G7 X7 B7 hW7 hl7 hg7 hr7 k7 hok hLV hGV
      go_wp2
      have hWE : W7 = (((wr.setCell ⟨w.heap.size + 1, 0, none⟩ (.string nm)).setCell ⟨w.heap.size + 1, 1, none⟩ (.int .i64 st)).setCell ⟨w.heap.size + 1, 2, none⟩ (Value.slice A7 bs2.length c7)).setCell ⟨w.heap.size + 1, 3, none⟩ (Value.slice A8 gs2.length c8) := by rw [← HLV.out.1, ← HLV.out.2]; exact HW7.out
      rw [← hWE]
      obtain ⟨z0, z1, z2, z3⟩ := HZ.out
      rw [HLV.out.1] at z2
      rw [HLV.out.2] at z3
      exact bodyPost_ret (v := .tuple #[.agg #[.string nm, .int .i64 st, .slice A7 bs2.length c7, .slice A8 gs2.length c8], .slice (some ⟨w4.heap.size, 0, none⟩) bs.length bs.length, .int .i64 0]) (by simp [results, Tryz.results32, go_sem, z0, z1, z2, z3]) rfl ⟨_, _, _, rfl, HX7.out.1, HX7.out.2.1, HX7.out.2.2.1, HX7.out.2.2.2⟩

end Go.Proofs.YtkgkpcmokmhakaaGreatDoor

namespace Go.Proofs.YtkgkpcmokmhakaaGreatDoor
open Go.RowKit

/-- What the first k parts between cuts give. -/
def combK (a b : List (Int × Int)) (kp : Bool → Bool → Bool) (cl : List Int) : Nat → List (Int × Int)
  | 0 => []
  | k + 1 => if kp (cov a (cl.getD k 0)) (cov b (cl.getD k 0)) = true then ext (combK a b kp cl k) (cl.getD k 0) (cl.getD (k + 1) 0) else combK a b kp cl k
end Go.Proofs.YtkgkpcmokmhakaaGreatDoor

namespace Go.Proofs.YtkgkpcmokmhakaaGreatDoor
open Go.RowKit Go.Shelf Go.Sort

/-- The ends of the first k spans of a list. -/
def endK (l : List (Int × Int)) (k : Nat) : List Int := (l.take k).flatMap fun s => [s.1, s.2]
def endAll (a b : List (Int × Int)) : List Int := endK a a.length ++ endK b b.length
def cutsOf (a b : List (Int × Int)) : List Int := Lib.compact ((endAll a b).mergeSort fun x y => decide (x ≤ y))
theorem cell_two_new (W : World) (x y : Value) (t : TypeId) : ∀ j u, [x, y][j]? = some u → (W.alloc (.cells #[x, y] t)).cell? ((⟨W.heap.size, 0, none⟩ : Addr).add j) = some u := by
  intro j u h
  have := World.cell?_alloc_new W #[x, y] t j
  match j, h, this with
  | 0, h, this => simp at h; subst h; simp [Addr.add]
  | 1, h, this => simp at h; subst h; simp [Addr.add]
end Go.Proofs.YtkgkpcmokmhakaaGreatDoor

namespace Go.Proofs.YtkgkpcmokmhakaaGreatDoor
open Go.RowKit Go.Shelf

/-- What a choice gives of two lists. -/
def choice (kp : Bool → Bool → Bool) (a b : List (Int × Int)) : List (Int × Int) := combK a b kp (cutsOf a b) ((cutsOf a b).length - 1)

end Go.Proofs.YtkgkpcmokmhakaaGreatDoor
