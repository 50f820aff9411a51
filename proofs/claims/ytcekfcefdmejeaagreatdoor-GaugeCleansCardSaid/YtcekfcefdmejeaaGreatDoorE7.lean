/-
  Contracts of the statements' own and told, and of the reference's SameRecord: where two records are the same, and where an error is the expected one.
  Contract of the reference's Fill. Conditions: a valid record; its list of levels is nil or leads somewhere.
  Reasons, Clean and Fill of what is not valid: the first error.
-/
import Derived.Test.YtcekfcefdmejeaaGreatDoorProg
import Derived.Test.YtcekfcefdmejeaaGreatDoorMR
import Derived.Test.YtcekfcefdmejeaaGreatDoorMI
import Derived.Test.YtcekfcefdmejeaaGreatDoorMS
import Derived.Test.YtcekfcefdmejeaaGreatDoorH2
import Derived.Deep.RegionHeld3
import Derived.Deep.Cut
import Derived.Test.YtcekfcefdmejeaaGreatDoorT0
import Derived.Test.YtcekfcefdmejeaaGreatDoorT1

namespace Go.Proofs.YtcekfcefdmejeaaGreatDoor
open Go.RowKit
attribute [local go_sem] Oper.semAt_some

set_option maxRecDepth 1000000 in
set_option maxHeartbeats 4000000 in
theorem sameRec_yes (nm : ByteArray) (st : Int) (l1 g1 l2 g2 : Value) (b1 b2 : List Nat) (s1 s2 : List (Int × Int)) (w : World) (hl1 : Rd w w.heap.size l1 b1.length (flc b1)) (hg1 : Rd w w.heap.size g1 s1.length (spc s1)) (hl2 : Rd w w.heap.size l2 b2.length (flc b2)) (hg2 : Rd w w.heap.size g2 s2.length (spc s2))
    (hL : sameF feqL 0 b1 b2 = true) (hG : sameF (fun x y : Int × Int => x == y) (0, 0) s1 s2 = true) :
    Calls Tryz.prog 61 #[.agg #[.string nm, .int .i64 st, l1, g1], .agg #[.string nm, .int .i64 st, l2, g2]] w fun e w' => e = .returned (.bool true) ∧ Below w.heap.size w w' := by
  have H1 := hd hl1
  have H2 := hd hg1
  have H3 := hd hl2
  have H4 := hd hg2
  have HL := hd hL
  have HG := hd hG
  obtain ⟨A1, c1, rfl, -⟩ := hl1
  obtain ⟨A2, c2, rfl, -⟩ := hg1
  obtain ⟨A3, c3, rfl, -⟩ := hl2
  obtain ⟨A4, c4, rfl, -⟩ := hg2
  obtain ⟨W1, hW1⟩ : ∃ W1, W1 = ((w.alloc (Obj.cells #[.string nm, .int .i64 st, .slice A1 b1.length c1, .slice A2 s1.length c2] 25)).alloc (Obj.cells #[.string nm, .int .i64 st, .slice A3 b2.length c3, .slice A4 s2.length c4] 25)) := ⟨_, rfl⟩
  have hB : Below w.heap.size w W1 := by rw [hW1]; exact ((Below.refl _ w).alloc (Nat.le_refl _) _).alloc (by simp) _
  have hq : W1.heap[w.heap.size]? = some (.cells #[.string nm, .int .i64 st, .slice A1 b1.length c1, .slice A2 s1.length c2] 25 (0, 0)) := by
    rw [hW1, Below.heap_alloc _ _ _ (by simp)]; exact blk_new _ _ _
  have hr : W1.heap[w.heap.size + 1]? = some (.cells #[.string nm, .int .i64 st, .slice A3 b2.length c3, .slice A4 s2.length c4] 25 (0, 0)) := by
    have h1 := blk_new (w.alloc (Obj.cells #[.string nm, .int .i64 st, .slice A1 b1.length c1, .slice A2 s1.length c2] 25)) #[.string nm, .int .i64 st, .slice A3 b2.length c3, .slice A4 s2.length c4] 25
    simp only [World.size_alloc] at h1
    rw [hW1]; exact h1
  have HB := hd hB
  have HQ := hd hq
  have HR := hd hr
  have HR1 := hd ((H1.out.below hB (Nat.le_refl _)).mono hB.size)
  have HR2 := hd ((H2.out.below hB (Nat.le_refl _)).mono hB.size)
  have HR3 := hd ((H3.out.below hB (Nat.le_refl _)).mono hB.size)
  have HR4 := hd ((H4.out.below hB (Nat.le_refl _)).mono hB.size)
  have q2 := blk_cell hq 2
  have q3 := blk_cell hq 3
  have r2 := blk_cell hr 2
  have r3 := blk_cell hr 3
  have q0 := blk_cell hq 0
  have q1 := blk_cell hq 1
  have r0 := blk_cell hr 0
  have r1 := blk_cell hr 1
  simp at q0 q1 q2 q3 r0 r1 r2 r3
  clear hL hG hB hq hr
  go_enter Tryz.func61, Tryz.ntmps61
  go_wp2_with fail
  rw [← hW1]
  refine (sameLevels_any _ _ b1 b2 _ HR1.out HR3.out).mono ?_
  rw [HL.out]
  rintro e w1 ⟨rfl, hb⟩
  have k3 := blk_cell ((hb.block _ (blk_lt HQ.out)).trans HQ.out) 3
  have m3 := blk_cell ((hb.block _ (blk_lt HR.out)).trans HR.out) 3
  simp at k3 m3
  have HS2 := hd ((HR2.out.below hb (Nat.le_refl _)).mono hb.size)
  have HS4 := hd ((HR4.out.below hb (Nat.le_refl _)).mono hb.size)
  have HB1 := hd (HB.out.trans (hb.mono HB.out.size))
  clear hb q0 q1 q2 q3 r0 r1 r2 r3 hW1
  go_wp2_with fail
  refine (sameSpans_any _ _ s1 s2 _ HS2.out HS4.out).mono ?_
  rw [HG.out]
  rintro e w2 ⟨rfl, hb⟩
  have HB2 := hd (HB1.out.trans (hb.mono HB1.out.size))
  clear hb k3 m3
  go_wp2_with fail
  go_returns
  exact ⟨rfl, HB2.out⟩

set_option maxRecDepth 1000000 in
theorem own_rec (nm : ByteArray) (st : Int) (A A2 : Option Addr) (n c n2 c2 : Nat) (w : World) :
    Calls Tryz.prog 62 #[.agg #[.string nm, .int .i64 st, .slice A n c, .slice A2 n2 c2]] w fun e w' => e = .returned (.agg #[.string nm, .int .i64 st, .slice A n c, .slice A2 n2 c2]) ∧ Below w.heap.size w w' := by
  have HB := hd (((Below.refl w.heap.size w).alloc (Nat.le_refl _) (Obj.cells #[.string nm, .int .i64 st, .slice A n c, .slice A2 n2 c2] 34)).alloc (by simp) (Obj.cells #[.string nm, .int .i64 st, .slice A n c, .slice A2 n2 c2] 25))
  go_enter Tryz.func62, Tryz.ntmps62
  go_wp2_with fail
  go_returns
  exact ⟨rfl, HB.out⟩

set_option maxRecDepth 1000000 in
set_option maxHeartbeats 4000000 in
/-- An error that is the expected one, with the empty record. -/
theorem told_bad (x : Int) (nm : ByteArray) (st : Int) (A A2 : Option Addr) (n c n2 c2 : Nat) (w : World) (hx : (x != 0) = true) :
    Calls Tryz.prog 23 #[.agg #[.string ⟨#[]⟩, .int .i64 0, .slice none 0 0, .slice none 0 0], .int .i64 x, .int .i64 x, .agg #[.string nm, .int .i64 st, .slice A n c, .slice A2 n2 c2]] w fun e w' => e = .returned (.bool true) ∧ Below w.heap.size w w' := by
  have HB := hd (((Below.refl w.heap.size w).alloc (Nat.le_refl _) (Obj.cells #[.string ⟨#[]⟩, .int .i64 0, .slice none 0 0, .slice none 0 0] 34)).alloc (by simp) (Obj.cells #[.string nm, .int .i64 st, .slice A n c, .slice A2 n2 c2] 25))
  go_enter Tryz.func23, Tryz.ntmps23
  go_wp2_with fail
  refine (own_rec ⟨#[]⟩ 0 none none 0 0 0 0 _).mono ?_
  rintro e w1 ⟨rfl, hb⟩
  have HB1 := hd (HB.out.trans (hb.mono HB.out.size))
  clear hb
  go_wp2_with fail
  refine (sameRec_yes ⟨#[]⟩ 0 _ _ _ _ [] [] [] [] _ (Rd.nil _ _) (Rd.nil _ _) (Rd.nil _ _) (Rd.nil _ _) rfl rfl).mono ?_
  rintro e w2 ⟨rfl, hb⟩
  have HB2 := hd (HB1.out.trans (hb.mono HB1.out.size))
  clear hb
  go_wp2_with fail
  go_returns
  exact ⟨rfl, HB2.out⟩

set_option maxRecDepth 1000000 in
set_option maxHeartbeats 4000000 in
/-- A record that is the expected one, without an error. -/
theorem told_ok (nm : ByteArray) (st : Int) (l1 g1 l2 g2 : Value) (b1 b2 : List Nat) (s1 s2 : List (Int × Int)) (w : World) (hl1 : Rd w w.heap.size l1 b1.length (flc b1)) (hg1 : Rd w w.heap.size g1 s1.length (spc s1)) (hl2 : Rd w w.heap.size l2 b2.length (flc b2)) (hg2 : Rd w w.heap.size g2 s2.length (spc s2))
    (hL : sameF feqL 0 b1 b2 = true) (hG : sameF (fun x y : Int × Int => x == y) (0, 0) s1 s2 = true) :
    Calls Tryz.prog 23 #[.agg #[.string nm, .int .i64 st, l1, g1], .int .i64 0, .int .i64 0, .agg #[.string nm, .int .i64 st, l2, g2]] w fun e w' => e = .returned (.bool true) ∧ Below w.heap.size w w' := by
  have H1 := hd hl1
  have H2 := hd hg1
  have H3 := hd hl2
  have H4 := hd hg2
  have HL := hd hL
  have HG := hd hG
  obtain ⟨A1, c1, rfl, -⟩ := hl1
  obtain ⟨A2, c2, rfl, -⟩ := hg1
  obtain ⟨A3, c3, rfl, -⟩ := hl2
  obtain ⟨A4, c4, rfl, -⟩ := hg2
  obtain ⟨W1, hW1⟩ : ∃ W1, W1 = ((w.alloc (Obj.cells #[.string nm, .int .i64 st, .slice A1 b1.length c1, .slice A2 s1.length c2] 34)).alloc (Obj.cells #[.string nm, .int .i64 st, .slice A3 b2.length c3, .slice A4 s2.length c4] 25)) := ⟨_, rfl⟩
  have hB : Below w.heap.size w W1 := by rw [hW1]; exact ((Below.refl _ w).alloc (Nat.le_refl _) _).alloc (by simp) _
  have hq : W1.heap[w.heap.size]? = some (.cells #[.string nm, .int .i64 st, .slice A1 b1.length c1, .slice A2 s1.length c2] 34 (0, 0)) := by
    rw [hW1, Below.heap_alloc _ _ _ (by simp)]; exact blk_new _ _ _
  have hr : W1.heap[w.heap.size + 1]? = some (.cells #[.string nm, .int .i64 st, .slice A3 b2.length c3, .slice A4 s2.length c4] 25 (0, 0)) := by
    have h1 := blk_new (w.alloc (Obj.cells #[.string nm, .int .i64 st, .slice A1 b1.length c1, .slice A2 s1.length c2] 34)) #[.string nm, .int .i64 st, .slice A3 b2.length c3, .slice A4 s2.length c4] 25
    simp only [World.size_alloc] at h1
    rw [hW1]; exact h1
  have F0 : ∀ p : Bw W1, p.out.cell? ⟨w.heap.size, 0, none⟩ = some (.string nm) := fun p => p.cell (blk_lt hq) (by simpa using blk_cell hq 0)
  have F1 : ∀ p : Bw W1, p.out.cell? ⟨w.heap.size, 1, none⟩ = some (.int .i64 st) := fun p => p.cell (blk_lt hq) (by simpa using blk_cell hq 1)
  have F2 : ∀ p : Bw W1, p.out.cell? ⟨w.heap.size, 2, none⟩ = some (.slice A1 b1.length c1) := fun p => p.cell (blk_lt hq) (by simpa using blk_cell hq 2)
  have F3 : ∀ p : Bw W1, p.out.cell? ⟨w.heap.size, 3, none⟩ = some (.slice A2 s1.length c2) := fun p => p.cell (blk_lt hq) (by simpa using blk_cell hq 3)
  have G0 : ∀ p : Bw W1, p.out.cell? ⟨w.heap.size + 1, 0, none⟩ = some (.string nm) := fun p => p.cell (blk_lt hr) (by simpa using blk_cell hr 0)
  have G1 : ∀ p : Bw W1, p.out.cell? ⟨w.heap.size + 1, 1, none⟩ = some (.int .i64 st) := fun p => p.cell (blk_lt hr) (by simpa using blk_cell hr 1)
  have G2 : ∀ p : Bw W1, p.out.cell? ⟨w.heap.size + 1, 2, none⟩ = some (.slice A3 b2.length c3) := fun p => p.cell (blk_lt hr) (by simpa using blk_cell hr 2)
  have G3 : ∀ p : Bw W1, p.out.cell? ⟨w.heap.size + 1, 3, none⟩ = some (.slice A4 s2.length c4) := fun p => p.cell (blk_lt hr) (by simpa using blk_cell hr 3)
  have HB := hd hB
  have HPB := hd (fun p : Bw W1 => hB.trans (p.below.mono hB.size))
  have HSR := hd (fun W hb => sameRec_yes nm st _ _ _ _ b1 b2 s1 s2 W ((H1.out.below hb (Nat.le_refl _)).mono hb.size) ((H2.out.below hb (Nat.le_refl _)).mono hb.size) ((H3.out.below hb (Nat.le_refl _)).mono hb.size) ((H4.out.below hb (Nat.le_refl _)).mono (Below.size hb)) HL.out HG.out)
  clear hL hG hB hq hr
  go_enter Tryz.func23, Tryz.ntmps23
  go_wp2_with fail
  rw [← hW1]
  clear hW1
  refine wp_region_bw (by kernel_rfl) (by kernel_rfl) ?_
  repeat (first | go_big_quiet_step (first | (go_at_call 62; exact Bw.call _ (own_rec _ _ _ _ _ _ _ _ _)) | (go_at_call 61; exact Bw.call _ (HSR.out _ (HPB.out _)))))
  refine wpQuiet_nil ?_
  rintro ⟨W2, hB2⟩
  change Exit.then _ _ _ _ W2
  have HB2 := hd (HB.out.trans (hB2.mono HB.out.size))
  clear hB2 F0 F1 F2 F3 G0 G1 G2 G3
  go_wp2_with fail
  go_returns
  exact ⟨rfl, HB2.out⟩
end Go.Proofs.YtcekfcefdmejeaaGreatDoor

namespace Go.Proofs.YtcekfcefdmejeaaGreatDoor
open Go.RowKit
attribute [local go_sem] Oper.semAt_some

section
variable {P : Program} (w : World)
/-- append onto a row of the call's own, at a step of a region that draws. -/
theorem step_append_own {y : Nat → Option Bool} {o : Oper} {a : Act} {K : Act → World → Prop} {Q : Exit → Act → World → Prop} {E : Prop} (hgd : o.guard = none) (s x : Operand) (t : TypeId)
    (ho : o.op = .call { callee := .builtin .append, args := #[s, x], argTypes := #[t, t] })
    (base : Nat) (e : TypeId) (i : TypeInfo) (z : Value) (size bytes : Nat) (ht : P.underlying t = some (.slice e)) (hi : P.info? e = some i) (hz : i.zero = some z)
    (hsize : i.size = size) (hby : i.bytes = bytes) (hzs : z.cells.size = size) (hsz : 0 < size)
    (v : Value) (n : Nat) (xs : List Value) (hs : a.eval s = v) (hown : w.ownsRow base e size v n xs)
    (ad : Addr) (m c : Nat) (news : List Value) (hx : a.eval x = .slice (some ad) m c) (hl : news.length = m * size) (hnews : ∀ j u, news[j]? = some u → w.cell? (ad.add j) = some u) (h1 : ∀ u ∈ news, u.oneCell' = true)
    (h63 : n + m ≤ maxLen) (hbytes : (n + m) * bytes ≤ 140737488355328) (hbase : base ≤ w.heap.size)
    (h : ∀ v' w', w'.ownsRow base e size v' (n + m) (xs ++ news) → w.grownBy w' v.ownBlock → (v' = .slice none 0 0 ↔ v = .slice none 0 0 ∧ m = 0) → K (a.put o.dst v') w') :
    if Region.wanted o y = true then Oper.wp P o a w K Q else E := by
  have hw : Region.wanted o y = true := by simp [Region.wanted, hgd]
  rw [if_pos hw]
  exact wp_append_own w s x t ho base e i z size bytes ht hi hz hsize hby hzs hsz v n xs hs hown ad m c news hx hl hnews h1 h63 hbytes hbase h
theorem step_append_opt {y : Nat → Option Bool} {o : Oper} {a : Act} {K : Act → World → Prop} {Q : Exit → Act → World → Prop} {E : Prop} (hgd : o.guard = none) (s x : Operand) (t : TypeId)
    (ho : o.op = .call { callee := .builtin .append, args := #[s, x], argTypes := #[t, t] })
    (base : Nat) (e : TypeId) (i : TypeInfo) (z : Value) (size bytes : Nat) (ht : P.underlying t = some (.slice e)) (hi : P.info? e = some i) (hz : i.zero = some z)
    (hsize : i.size = size) (hby : i.bytes = bytes) (hzs : z.cells.size = size) (hsz : 0 < size)
    (v : Value) (n : Nat) (xs : List Value) (hs : a.eval s = v) (hown : w.ownsRow base e size v n xs)
    (ao : Option Addr) (m c : Nat) (news : List Value) (hx : a.eval x = .slice ao m c) (hl : news.length = m * size) (hnone : ao = none → m = 0 ∧ c = 0) (hnews : ∀ ad, ao = some ad → ∀ j u, news[j]? = some u → w.cell? (ad.add j) = some u) (h1 : ∀ u ∈ news, u.oneCell' = true)
    (h63 : n + m ≤ maxLen) (hbytes : (n + m) * bytes ≤ 140737488355328) (hbase : base ≤ w.heap.size)
    (h : ∀ v' w', w'.ownsRow base e size v' (n + m) (xs ++ news) → w.grownBy w' v.ownBlock → K (a.put o.dst v') w') :
    if Region.wanted o y = true then Oper.wp P o a w K Q else E := by
  cases ao with
  | some ad => exact step_append_own w hgd s x t ho base e i z size bytes ht hi hz hsize hby hzs hsz v n xs hs hown ad m c news hx hl (hnews ad rfl) h1 h63 hbytes hbase (fun v' w' g1 g2 _ => h v' w' g1 g2)
  | none =>
    obtain ⟨rfl, rfl⟩ := hnone rfl
    have hnews' : news = [] := List.eq_nil_of_length_eq_zero (by simpa using hl)
    subst hnews'
    have hw : Region.wanted o y = true := by simp [Region.wanted, hgd]
    rw [if_pos hw]
    subst hsize
    have hr := run_append_owned_none (P := P) w base t o.type e i i.size ht hi v n xs hown
    unfold Oper.wp execOp
    simp only [ho, resolve, invoke, builtin, Sem.run_bind, Sem.run_pure, Result.andThen_ok, List.map_toArray, List.map_cons, List.map_nil, hs, hx, hr]
    exact h v w (by simpa using hown) (World.grownBy.refl _ _)
end

/-- What holds between the rounds of Fill. -/
structure FJ (n₀ O n : Nat) (w : World) (REC : Array Value) (nm : ByteArray) (st : Int) (LV : Value) (s : FS) (FV : Value) (W : World) : Prop where
  lev : W.ownsRow n₀ 62 1 LV n (flc s.lev)
  out : ∃ GV, W.heap[O]? = some (.cells #[.string nm, .int .i64 st, LV, GV] 25 (0, 0)) ∧ W.ownsRow n₀ 82 2 GV s.gap.length (spc s.gap) ∧ (∀ g, GV.ownBlock = some g → FV.ownBlock ≠ some g)
  fil : W.ownsRow n₀ 82 2 FV s.fil.length (spc s.fil)
  rec0 : W.heap[n₀]? = some (.cells REC 25 (0, 0))
  rec1 : W.heap[n₀ + 1]? = some (.cells #[.string ⟨#[]⟩, .int .i64 0, .slice none 0 0, .slice none 0 0] 25 (0, 0))
  bel : Below n₀ w W
section
variable {n₀ O n : Nat} {w : World} {REC : Array Value} {nm : ByteArray} {st : Int} {LV : Value} {s : FS} {FV : Value} {W W' : World}
theorem FJ.below (h : FJ n₀ O n w REC nm st LV s FV W) (hb : Below W.heap.size W W') : FJ n₀ O n w REC nm st LV s FV W' := by
  obtain ⟨GV, h1, h2, h3⟩ := h.out
  exact ⟨own_bel h.lev hb, ⟨GV, (hb.block _ (blk_lt h1)).trans h1, own_bel h2 hb, h3⟩, own_bel h.fil hb, (hb.block _ (blk_lt h.rec0)).trans h.rec0, (hb.block _ (blk_lt h.rec1)).trans h.rec1, h.bel.trans (hb.mono (Nat.le_of_lt (blk_lt h.rec0)))⟩
/-- A gap that stays is put behind the others. -/
theorem FJ.keep (h : FJ n₀ O n w REC nm st LV s FV W) (hO : n₀ + 2 ≤ O) {GV v' : Value} (h1 : W.heap[O]? = some (.cells #[.string nm, .int .i64 st, LV, GV] 25 (0, 0))) (h2 : W.ownsRow n₀ 82 2 GV s.gap.length (spc s.gap)) (h3 : ∀ g, GV.ownBlock = some g → FV.ownBlock ≠ some g) {f t : Int}
    (hown : W'.ownsRow n₀ 82 2 v' (s.gap.length + 1) (spc s.gap ++ [.int .i64 f, .int .i64 t])) (hg : W.grownBy W' GV.ownBlock) (hat : v'.ownBlock = GV.ownBlock ∨ v'.ownBlock = some W.heap.size) : FJ n₀ O n w REC nm st LV ⟨s.lev, s.gap ++ [(f, t)], s.fil⟩ FV (W'.setCell ⟨O, 3, none⟩ v') := by
  have bO := (hg.block O (blk_lt h1) (blk_not_row h1 (by decide) h2)).trans h1
  have b0 := (hg.block n₀ (blk_lt h.rec0) (blk_not_row h.rec0 (by decide) h2)).trans h.rec0
  have b1 := (hg.block (n₀ + 1) (blk_lt h.rec1) (blk_not_row h.rec1 (by decide) h2)).trans h.rec1
  have l1 := h.lev.kept hg (own_types h.lev h2 (by decide))
  have f1 := h.fil.kept hg (by
    cases hq : FV.ownBlock with
    | none => exact .inl rfl
    | some g => exact .inr (fun e => h3 g e.symm hq))
  refine ⟨own_far l1 (own_box l1 bO (by decide)), ⟨v', by simpa using blk_set bO 3 v', ?_, fun g hgv hgf => ?_⟩, own_far f1 (own_box f1 bO (by decide)), (Below.heap_setCell W' ⟨O, 3, none⟩ v' _ (by show n₀ ≠ O; omega)).trans b0, (Below.heap_setCell W' ⟨O, 3, none⟩ v' _ (by show n₀ + 1 ≠ O; omega)).trans b1, (h.bel.grown hg (Nat.le_of_lt (blk_lt h.rec0)) (fun j hj => (h2.lt j hj).1)).setCell (p := ⟨O, 3, none⟩) (by show n₀ ≤ O; omega) v'⟩
  · rw [← spc_snoc, List.length_append]
    exact own_far hown (own_box hown bO (by decide))
  · rcases hat with e | e
    · rw [e] at hgv; exact h3 g hgv hgf
    · rw [e] at hgv
      have e2 : W.heap.size = g := Option.some.inj hgv
      have := (h.fil.lt g hgf).2
      omega
/-- A span that is filled is put behind the others. -/
theorem FJ.fill (h : FJ n₀ O n w REC nm st LV s FV W) {v' : Value} {f t : Int} (hown : W'.ownsRow n₀ 82 2 v' (s.fil.length + 1) (spc s.fil ++ [.int .i64 f, .int .i64 t])) (hg : W.grownBy W' FV.ownBlock) (hat : v'.ownBlock = FV.ownBlock ∨ v'.ownBlock = some W.heap.size) : FJ n₀ O n w REC nm st LV ⟨s.lev, s.gap, s.fil ++ [(f, t)]⟩ v' W' := by
  obtain ⟨GV, h1, h2, h3⟩ := h.out
  refine ⟨h.lev.kept hg (own_types h.lev h.fil (by decide)), ⟨GV, (hg.block O (blk_lt h1) (blk_not_row h1 (by decide) h.fil)).trans h1, h2.kept hg ?_, fun g hgv hgf => ?_⟩, by rw [← spc_snoc, List.length_append]; exact hown, (hg.block n₀ (blk_lt h.rec0) (blk_not_row h.rec0 (by decide) h.fil)).trans h.rec0, (hg.block (n₀ + 1) (blk_lt h.rec1) (blk_not_row h.rec1 (by decide) h.fil)).trans h.rec1, h.bel.grown hg (Nat.le_of_lt (blk_lt h.rec0)) (fun j hj => (h.fil.lt j hj).1)⟩
  · cases hq : GV.ownBlock with
    | none => exact .inl rfl
    | some g => exact .inr (fun e => h3 g hq e.symm)
  · rcases hat with e | e
    · rw [e] at hgf; exact h3 g hgv hgf
    · rw [e] at hgf
      have e2 : W.heap.size = g := Option.some.inj hgf
      have := (h2.lt g hgv).2
      omega
/-- A level is set. -/
theorem FJ.put {g c : Nat} (h : FJ n₀ O n w REC nm st (.slice (some ⟨g, 0, none⟩) n c) s FV W) (hg : n₀ ≤ g) (i : Nat) {v : Nat} {ls : List Nat} (e : (flc s.lev).set i (.float .f32 v) = flc ls) : FJ n₀ O n w REC nm st (.slice (some ⟨g, 0, none⟩) n c) ⟨ls, s.gap, s.fil⟩ FV (W.setCell ⟨g, i, none⟩ (.float .f32 v)) := by
  obtain ⟨GV, h1, h2, h3⟩ := h.out
  obtain ⟨cs, hc⟩ := own_blk h.lev
  have ne : ∀ {t : TypeId} {x : Nat} {cs : Array Value}, W.heap[x]? = some (.cells cs t (0, 0)) → t ≠ 62 → x ≠ g := fun hx ht e => by subst e; rw [hc] at hx; cases hx; exact ht rfl
  refine ⟨by rw [← e]; exact (h.lev.stored i (.float .f32 v)).1, ⟨GV, (Below.heap_setCell W ⟨g, i, none⟩ _ _ (ne h1 (by decide))).trans h1, own_far h2 (own_box h2 hc (by decide)), h3⟩, own_far h.fil (own_box h.fil hc (by decide)), (Below.heap_setCell W ⟨g, i, none⟩ _ _ (ne h.rec0 (by decide))).trans h.rec0, (Below.heap_setCell W ⟨g, i, none⟩ _ _ (ne h.rec1 (by decide))).trans h.rec1, h.bel.setCell (p := ⟨g, i, none⟩) hg _⟩
end
theorem FJ.drew {n₀ O n : Nat} {w : World} {REC : Array Value} {nm : ByteArray} {st : Int} {LV : Value} {s : FS} {FV : Value} {W : World} (h : FJ n₀ O n w REC nm st LV s FV W) : FJ n₀ O n w REC nm st LV s FV W.drew := ⟨h.lev, h.out, h.fil, h.rec0, h.rec1, h.bel.drew⟩
theorem FJ.done {n₀ O n : Nat} {w : World} {REC : Array Value} {nm : ByteArray} {st : Int} {LV : Value} {s : FS} {FV GV : Value} {W : World} (h : FJ n₀ O n w REC nm st LV s FV W) (hg : W.ownsRow n₀ 82 2 GV s.gap.length (spc s.gap)) (a b c d : Value) :
    (set4 W (n₀ + 1) a b c d).ownsRow n₀ 62 1 LV n (flc s.lev) ∧ (set4 W (n₀ + 1) a b c d).ownsRow n₀ 82 2 GV s.gap.length (spc s.gap) ∧ (set4 W (n₀ + 1) a b c d).ownsRow n₀ 82 2 FV s.fil.length (spc s.fil) ∧ Below n₀ w (set4 W (n₀ + 1) a b c d) ∧ (set4 W (n₀ + 1) a b c d).heap[n₀ + 1]? = some (.cells #[a, b, c, d] 25 (0, 0)) :=
  ⟨own_far4 h.lev (own_box h.lev h.rec1 (by decide)), own_far4 hg (own_box hg h.rec1 (by decide)), own_far4 h.fil (own_box h.fil h.rec1 (by decide)), set4_below h.bel (Nat.le_succ n₀) a b c d, set4_blk h.rec1 a b c d⟩

section
variable {w W1 V : World} {REC : Array Value} {nm : ByteArray} {st : Int} {LV : Value} {bs : List Nat} {gs : List (Int × Int)} {n : Int}
theorem fj_stored (hs : W1.heap.size = w.heap.size + 2) (hB : Below w.heap.size w W1) (hQ : W1.heap[w.heap.size]? = some (.cells REC 25 (0, 0))) (hZ : W1.heap[w.heap.size + 1]? = some (.cells #[.string ⟨#[]⟩, .int .i64 0, .slice none 0 0, .slice none 0 0] 25 (0, 0)))
    (hV : Below W1.heap.size W1 V) {R : Nat} {z0 z1 z2 z3 : Value} (hR : V.heap[R]? = some (.cells #[z0, z1, z2, z3] 25 (0, 0))) (hb : W1.heap.size ≤ R) (hl : V.ownsRow W1.heap.size 62 1 LV bs.length (flc bs)) :
    w.heap.size + 2 ≤ R ∧ FJ w.heap.size R bs.length w REC nm st LV (fillF bs gs n 0) (.slice none 0 0) (set4 V R (.string nm) (.int .i64 st) LV (.slice none 0 0)) :=
  ⟨by omega, own_base (own_far4 hl (own_box hl hR (by decide))) (by omega), ⟨.slice none 0 0, set4_blk hR _ _ _ _, World.ownsRow_nil _ _ _ _, fun g hg => by cases hg⟩, World.ownsRow_nil _ _ _ _,
    (set4_other V (R := R) (D := w.heap.size) (by omega) _ _ _ _).trans ((hV.block _ (by omega)).trans hQ), (set4_other V (R := R) (D := w.heap.size + 1) (by omega) _ _ _ _).trans ((hV.block _ (by omega)).trans hZ), set4_below (hB.trans (hV.mono hB.size)) (R := R) (by omega) _ _ _ _⟩
theorem fj_alloc (hs : W1.heap.size = w.heap.size + 2) (hB : Below w.heap.size w W1) (hQ : W1.heap[w.heap.size]? = some (.cells REC 25 (0, 0))) (hZ : W1.heap[w.heap.size + 1]? = some (.cells #[.string ⟨#[]⟩, .int .i64 0, .slice none 0 0, .slice none 0 0] 25 (0, 0)))
    (hV : Below W1.heap.size W1 V) (hl : V.ownsRow W1.heap.size 62 1 LV bs.length (flc bs)) :
    w.heap.size + 2 ≤ V.heap.size ∧ FJ w.heap.size V.heap.size bs.length w REC nm st LV (fillF bs gs n 0) (.slice none 0 0) (V.alloc (.cells #[.string nm, .int .i64 st, LV, .slice none 0 0] 25)) := by
  have hsz := hV.size
  exact ⟨by omega, own_base (hl.alloc _) (by omega), ⟨.slice none 0 0, blk_new _ _ _, World.ownsRow_nil _ _ _ _, fun g hg => by cases hg⟩, World.ownsRow_nil _ _ _ _, (Below.heap_alloc _ _ _ (by omega)).trans ((hV.block _ (by omega)).trans hQ), (Below.heap_alloc _ _ _ (by omega)).trans ((hV.block _ (by omega)).trans hZ), (hB.trans (hV.mono hB.size)).alloc (by have := hB.size; omega) _⟩
end

set_option maxRecDepth 1000000 in
set_option maxHeartbeats 16000000 in
theorem refFill_any (nm : ByteArray) (st : Int) (A1 : Option Addr) (gv : Value) (bs : List Nat) (c1 : Nat) (gs : List (Int × Int)) (n : Int) (w : World) (hl : Rd w w.heap.size (.slice A1 bs.length c1) bs.length (flc bs)) (hg : Rd w w.heap.size gv gs.length (spc gs)) (V : Valid nm st bs gs) (hn : 0 ≤ n ∧ n ≤ 4096)
    (hA1 : A1 = none → bs.length = 0 ∧ c1 = 0) :
    Calls Tryz.prog 21 #[.agg #[.string nm, .int .i64 st, .slice A1 bs.length c1, gv], .int .i64 n] w fun e w' => ∃ LV GV FV, e = .returned (.tuple #[.agg #[.string nm, .int .i64 st, LV, GV], FV]) ∧
      w'.ownsRow w.heap.size 62 1 LV bs.length (flc (fillF bs gs n gs.length).lev) ∧ w'.ownsRow w.heap.size 82 2 GV (fillF bs gs n gs.length).gap.length (spc (fillF bs gs n gs.length).gap) ∧ w'.ownsRow w.heap.size 82 2 FV (fillF bs gs n gs.length).fil.length (spc (fillF bs gs n gs.length).fil) ∧ Below w.heap.size w w' := by
  obtain ⟨i0, hi, hz0, hz1, hz2⟩ := info_parts spanInfo
  obtain ⟨j0, hj, hy0, hy1, hy2⟩ := info_parts floatInfo
  have HJ := hd (And.intro hj (And.intro hy0 (And.intro hy1 hy2)))
  have HL := hd hl
  have HG := hd hg
  obtain ⟨A', c', e', hq1, hq2, hcl⟩ := id hl
  cases e'
  have HNO := hd hA1
  obtain ⟨A2, c2, rfl, hq3, hq4, -⟩ := id hg
  have hbn : bs.length ≤ 4096 := V.most
  unfold maxLen at hq2 hq4
  have hgs : gs.length ≤ 2048 := (chkSpans_ok gs V.spans).1
  have HSP := hd (show ∀ k, k < gs.length → 0 ≤ (gs.getD k (0, 0)).1 ∧ (gs.getD k (0, 0)).1 < (gs.getD k (0, 0)).2 ∧ (gs.getD k (0, 0)).2 ≤ (bs.length : Int) from fun k hk => by have := V.ends k hk; have h2 := (chkSpans_ok gs V.spans).2.1 (gs.getD k (0, 0)) (by simp [hk]); omega)
  obtain ⟨hn1, hn2⟩ := hn
  have HRD := hd (fun (W : World) (hB : Below w.heap.size w W) => And.intro ((HL.out.below hB (Nat.le_refl _)).mono hB.size) ((HG.out.below hB (Nat.le_refl _)).mono hB.size))
  have H63 := hd (show 0 + bs.length ≤ maxLen by unfold maxLen; omega)
  have HBY := hd (show (0 + bs.length) * 4 ≤ 140737488355328 by omega)
  obtain ⟨W1, hW1⟩ : ∃ W1, W1 = ((w.alloc (Obj.cells #[.string nm, .int .i64 st, .slice A1 bs.length c1, .slice A2 gs.length c2] 25)).alloc (Obj.cells #[.string ⟨#[]⟩, .int .i64 0, .slice none 0 0, .slice none 0 0] 25)) := ⟨_, rfl⟩
  have hs1 : W1.heap.size = w.heap.size + 2 := by rw [hW1]; simp
  have hB : Below w.heap.size w W1 := by rw [hW1]; exact ((Below.refl _ w).alloc (Nat.le_refl _) _).alloc (by simp) _
  have hq : W1.heap[w.heap.size]? = some (.cells #[.string nm, .int .i64 st, .slice A1 bs.length c1, .slice A2 gs.length c2] 25 (0, 0)) := by
    rw [hW1, Below.heap_alloc _ _ _ (by simp)]; exact blk_new _ _ _
  have hr : W1.heap[w.heap.size + 1]? = some (.cells #[.string ⟨#[]⟩, .int .i64 0, .slice none 0 0, .slice none 0 0] 25 (0, 0)) := by
    have h1 := blk_new (w.alloc (Obj.cells #[.string nm, .int .i64 st, .slice A1 bs.length c1, .slice A2 gs.length c2] 25)) #[.string ⟨#[]⟩, .int .i64 0, .slice none 0 0, .slice none 0 0] 25
    simp only [World.size_alloc] at h1
    rw [hW1]; exact h1
  have HNW := hd (fun (X : World) (hb : Below w.heap.size w X) ad (ha : A1 = some ad) j u (hu : (flc bs)[j]? = some u) => show X.cell? (ad.add j) = some u from by
    have hj : j < (flc bs).length := (List.getElem?_eq_some_iff.1 hu).1
    obtain ⟨b, off, e1, hbb, hc⟩ := hcl (by simp [flc] at hj; omega)
    rw [ha] at e1
    cases e1
    have e : (⟨b, off, none⟩ : Addr).add j = ⟨b, off + j, none⟩ := by unfold Addr.add; split <;> simp_all
    rw [e]
    exact (hb.cell (p := ⟨b, off + j, none⟩) hbb).trans ((hc j hj).trans hu))
  have HB := hd hB
  have HQ := hd hq
  have HR := hd hr
  have HS := hd hs1
  have q0 := blk_cell hq 0
  have q1 := blk_cell hq 1
  have q2 := blk_cell hq 2
  simp at q0 q1 q2
  have b0 := hd (hB.drew)
  have hle := hB.size
  have HOL := hd (show ((W1.alloc (Obj.cells #[.string ⟨#[]⟩, .int .i64 0, .slice none 0 0, .slice none 0 0] 25)).alloc (Obj.cells #[] 62)).drew.ownsRow W1.heap.size 62 1 (.slice (some ⟨W1.heap.size + 1, 0, none⟩) 0 0) 0 [] from by
    have h := World.ownsRow_lit (W1.alloc (Obj.cells #[.string ⟨#[]⟩, .int .i64 0, .slice none 0 0, .slice none 0 0] 25)) #[] 0 (e := 62) (size := 1) (Nat.le_refl _) (by decide) rfl
    rw [World.size_alloc] at h
    exact World.ownsRow.drew (own_base h (by show W1.heap.size ≤ W1.heap.size + 1; omega)))
  have HPN := hd (show ((W1.alloc (Obj.cells #[] 62)).alloc (Obj.cells #[.string ⟨#[]⟩, .int .i64 0, .slice none 0 0, .slice none 0 0] 25)).drew.heap[W1.heap.size + 1]? = some (.cells #[.string ⟨#[]⟩, .int .i64 0, .slice none 0 0, .slice none 0 0] 25 (0, 0)) from by
    have h := blk_new (W1.alloc (Obj.cells #[] 62)) #[.string ⟨#[]⟩, .int .i64 0, .slice none 0 0, .slice none 0 0] 25
    rw [World.size_alloc] at h
    exact h)
  have hnB : W1.heap.size ≠ w.heap.size := by omega
  have hnB' := hnB.symm
  have hnD : W1.heap.size + 1 ≠ w.heap.size := by omega
  have hnD' := hnD.symm
  clear hl hg V hB hq hr hs1 hcl hA1
  go_enter Tryz.func21, Tryz.ntmps21
  go_wp2_with fail
  rw [← hW1]
  clear hW1
  go_cut [6] from 11 (fun s6 wx => ∃ (O : Nat) (A4 : Option Addr) (c4 : Nat), s6 = .pointer (some ⟨O, 0, none⟩) ∧ Hid (w.heap.size + 2 ≤ O ∧ FJ w.heap.size O bs.length w #[.string nm, .int .i64 st, .slice A1 bs.length c1, .slice A2 gs.length c2] nm st (.slice A4 bs.length c4) (fillF bs gs n 0) (.slice none 0 0) wx))
  case first =>
    go_region_held3 (fun x => x.cell? ⟨w.heap.size, 0, none⟩ = some (.string nm) ∧ x.cell? ⟨w.heap.size, 1, none⟩ = some (.int .i64 st) ∧ x.cell? ⟨w.heap.size, 2, none⟩ = some (.slice A1 bs.length c1)) (go_keep)
      (first
        | (refine step_append_opt (W1.alloc (Obj.cells #[] 62)).drew (by rfl) (.tmp 15) (.tmp 17) 22 (by rfl) W1.heap.size 62 j0 (.float .f32 0) 1 4 Tryz.underlying22 HJ.out.1 HJ.out.2.1 HJ.out.2.2.1 HJ.out.2.2.2 rfl (by decide) (.slice (some ⟨W1.heap.size, 0, none⟩) 0 0) 0 [] (by rfl) (show (W1.alloc (Obj.cells #[] 62)).drew.ownsRow W1.heap.size 62 1 (.slice (some ⟨W1.heap.size, 0, none⟩) 0 0) 0 [] from World.ownsRow.drew (World.ownsRow_lit W1 #[] 0 (Nat.le_refl _) (by decide) rfl)) A1 bs.length c1 (flc bs) (by rfl) (by simp [flc]) HNO.out (HNW.out _ (HB.out.alloc hle _).drew) (one_flc bs) H63.out HBY.out (by simp) ?_; intro v4 w4 hown4 hg4; simp only [Nat.zero_add, List.nil_append] at hown4; obtain ⟨A4, c4, hv4, -⟩ := own_form hown4; subst hv4; have hW4 : Below W1.heap.size W1 w4 := ((Below.refl _ W1).alloc (Nat.le_refl _) _).drew.grown hg4 (by simp) (fun kk hk => by simp [Value.ownBlock] at hk; omega); have hq4 := (hW4.block _ (blk_lt HQ.out)).trans HQ.out; have N0 := blk_cell hq4 0; have N1 := blk_cell hq4 1; have N2 := blk_cell hq4 2; simp at N0 N1 N2; have hs4 := hW4.size; have hnC : w4.heap.size ≠ w.heap.size := (by have := HS.out; omega); have hnC' := hnC.symm; have HO4 := hd hown4; have HW4 := hd hW4; clear hown4 hg4 hW4 hq4)
        | (refine step_append_opt ((W1.alloc (Obj.cells #[] 62)).alloc (Obj.cells #[.string ⟨#[]⟩, .int .i64 0, .slice none 0 0, .slice none 0 0] 25)).drew (by rfl) (.tmp 15) (.tmp 17) 22 (by rfl) W1.heap.size 62 j0 (.float .f32 0) 1 4 Tryz.underlying22 HJ.out.1 HJ.out.2.1 HJ.out.2.2.1 HJ.out.2.2.2 rfl (by decide) (.slice (some ⟨W1.heap.size, 0, none⟩) 0 0) 0 [] (by rfl) (show ((W1.alloc (Obj.cells #[] 62)).alloc (Obj.cells #[.string ⟨#[]⟩, .int .i64 0, .slice none 0 0, .slice none 0 0] 25)).drew.ownsRow W1.heap.size 62 1 (.slice (some ⟨W1.heap.size, 0, none⟩) 0 0) 0 [] from World.ownsRow.drew (World.ownsRow.alloc (World.ownsRow_lit W1 #[] 0 (Nat.le_refl _) (by decide) rfl) _)) A1 bs.length c1 (flc bs) (by rfl) (by simp [flc]) HNO.out (HNW.out _ ((HB.out.alloc hle _).alloc (by simp <;> omega) _).drew) (one_flc bs) H63.out HBY.out (by simp <;> omega) ?_; intro v4 w4 hown4 hg4; simp only [Nat.zero_add, List.nil_append] at hown4; obtain ⟨A4, c4, hv4, -⟩ := own_form hown4; subst hv4; have hW4 : Below W1.heap.size W1 w4 := (((Below.refl _ W1).alloc (Nat.le_refl _) _).alloc (by simp) _).drew.grown hg4 (by simp <;> omega) (fun kk hk => by simp [Value.ownBlock] at hk; omega); have hq4 := (hW4.block _ (blk_lt HQ.out)).trans HQ.out; have N0 := blk_cell hq4 0; have N1 := blk_cell hq4 1; have N2 := blk_cell hq4 2; simp at N0 N1 N2; have hs4 := hW4.size; have hP : w4.heap[W1.heap.size + 1]? = _ := (hg4.block _ (by simp) (by simp [Value.ownBlock])).trans HPN.out; have p0 := blk_cell hP 0; have p1 := blk_cell hP 1; have p2 := blk_cell hP 2; have p3 := blk_cell hP 3; simp at p0 p1 p2 p3; have f0 := blk_frozen hP 0; have f1 := blk_frozen hP 1; have f2 := blk_frozen hP 2; have f3 := blk_frozen hP 3; have HP := hd (And.intro hP (show W1.heap.size ≤ W1.heap.size + 1 by omega)); have hnC : w4.heap.size ≠ w.heap.size := (by have := HS.out; omega); have hnC' := hnC.symm; have HO4 := hd hown4; have HW4 := hd hW4; clear hown4 hg4 hW4 hq4 hP)
        | (refine step_append_opt ((W1.alloc (Obj.cells #[.string ⟨#[]⟩, .int .i64 0, .slice none 0 0, .slice none 0 0] 25)).alloc (Obj.cells #[] 62)).drew (by rfl) (.tmp 15) (.tmp 17) 22 (by rfl) W1.heap.size 62 j0 (.float .f32 0) 1 4 Tryz.underlying22 HJ.out.1 HJ.out.2.1 HJ.out.2.2.1 HJ.out.2.2.2 rfl (by decide) (.slice (some ⟨W1.heap.size + 1, 0, none⟩) 0 0) 0 [] (by rfl) (show ((W1.alloc (Obj.cells #[.string ⟨#[]⟩, .int .i64 0, .slice none 0 0, .slice none 0 0] 25)).alloc (Obj.cells #[] 62)).drew.ownsRow W1.heap.size 62 1 (.slice (some ⟨W1.heap.size + 1, 0, none⟩) 0 0) 0 [] from HOL.out) A1 bs.length c1 (flc bs) (by rfl) (by simp [flc]) HNO.out (HNW.out _ ((HB.out.alloc hle _).alloc (by simp <;> omega) _).drew) (one_flc bs) H63.out HBY.out (by simp <;> omega) ?_; intro v4 w4 hown4 hg4; simp only [Nat.zero_add, List.nil_append] at hown4; obtain ⟨A4, c4, hv4, -⟩ := own_form hown4; subst hv4; have hW4 : Below W1.heap.size W1 w4 := (((Below.refl _ W1).alloc (Nat.le_refl _) _).alloc (by simp) _).drew.grown hg4 (by simp <;> omega) (fun kk hk => by simp [Value.ownBlock] at hk; omega); have hq4 := (hW4.block _ (blk_lt HQ.out)).trans HQ.out; have N0 := blk_cell hq4 0; have N1 := blk_cell hq4 1; have N2 := blk_cell hq4 2; simp at N0 N1 N2; have hs4 := hW4.size; have hP : w4.heap[W1.heap.size]? = _ := (hg4.block _ (by simp <;> omega) (by simp [Value.ownBlock])).trans ((Below.heap_alloc _ _ _ (by simp)).trans (blk_new W1 #[.string ⟨#[]⟩, .int .i64 0, .slice none 0 0, .slice none 0 0] 25)); have p0 := blk_cell hP 0; have p1 := blk_cell hP 1; have p2 := blk_cell hP 2; have p3 := blk_cell hP 3; simp at p0 p1 p2 p3; have f0 := blk_frozen hP 0; have f1 := blk_frozen hP 1; have f2 := blk_frozen hP 2; have f3 := blk_frozen hP 3; have HP := hd (And.intro hP (Nat.le_refl W1.heap.size)); have hnC : w4.heap.size ≠ w.heap.size := (by have := HS.out; omega); have hnC' := hnC.symm; have HO4 := hd hown4; have HW4 := hd hW4; clear hown4 hg4 hW4 hq4 hP))
    all_goals
      go_wp2_with fail
      go_meet
      first
        | exact ⟨_, _, _, rfl, hd (fj_stored HS.out HB.out HQ.out HR.out HW4.out HP.out.1 HP.out.2 HO4.out)⟩
        | exact ⟨_, _, _, rfl, hd (fj_alloc HS.out HB.out HQ.out HR.out HW4.out HO4.out)⟩
  case rest =>
    obtain ⟨O, A4, c4, rfl, HFO⟩ := hcut
    have hwO := HFO.out.1
    have HFI := hd HFO.out.2
    have hgs63 : (gs.length : Int) ≤ 2048 := by omega
    clear HFO HB HQ HR HS q0 q1 q2 b0 hle HOL HPN hnB hnB' hnD hnD' HNW HJ hj hy0 hy1 hy2 j0
    go_wp2
    go_loopw [7, 8] (fun fv i wr => ∃ k : Nat, k ≤ gs.length ∧ i = .int .i64 k ∧ Hid (FJ w.heap.size O bs.length w #[.string nm, .int .i64 st, .slice A1 bs.length c1, .slice A2 gs.length c2] nm st (.slice A4 bs.length c4) (fillF bs gs n k) fv wr)) (fun _ i _ => gs.length - (intOf i).toNat)
    case atStart => exact ⟨0, Nat.zero_le _, rfl, HFI⟩
    case round =>
      obtain ⟨k, hk, rfl, HI⟩ := hrel
      clear HFI
      have e3 := blk_cell HI.out.rec0 3
      simp at e3
      by_cases hlt : k < gs.length
      · obtain ⟨A', c', e', -, -, hx⟩ := (HRD.out _ HI.out.bel).2
        cases e'
        obtain ⟨b, off, rfl, hbb, hcell⟩ := hx (by omega)
        obtain ⟨q1, q2⟩ := spc_getD gs k hlt
        have hs0 : wr.cell? ⟨b, off + k * 2, none⟩ = some (.int .i64 (gs.getD k (0, 0)).1) := (hcell (k * 2) (by rw [spc_len]; omega)).trans q1
        have hs1 : wr.cell? ⟨b, off + k * 2 + 1, none⟩ = some (.int .i64 (gs.getD k (0, 0)).2) := (hcell (k * 2 + 1) (by rw [spc_len]; omega)).trans q2
        have hsp := HSP.out k hlt
        obtain ⟨F, T, hft⟩ : ∃ F T : Int, gs.getD k (0, 0) = (F, T) := ⟨_, _, rfl⟩
        rw [hft] at hs0 hs1 hsp
        simp only at hs0 hs1 hsp
        have HFT := hd hft
        have hki : (k : Int) < (gs.length : Int) := by omega
        have hwr := HI.out.bel.size
        obtain ⟨GV, g1, g2, g3⟩ := HI.out.out
        have hOlt := blk_lt g1
        have hO0 := blk_cell g1 3
        simp at hO0
        have hlen := fillF_len bs gs n k
        clear hft q1 q2 hcell hx
        have HCT := hd (show ∀ j u, [Value.int .i64 F, .int .i64 T][j]? = some u → ((wr.alloc (.cells #[.int .i64 F, .int .i64 T] 82)).alloc (.cells #[.int .i64 F, .int .i64 T] 82)).cell? ((⟨wr.heap.size + 1, 0, none⟩ : Addr).add j) = some u from by have h := cell_two_new (wr.alloc (.cells #[.int .i64 F, .int .i64 T] 82)) (.int .i64 F) (.int .i64 T) 82; rw [World.size_alloc] at h; exact h)
        have HBB := hd ((((Below.refl _ wr).alloc (Nat.le_refl _) (.cells #[.int .i64 F, .int .i64 T] 82)).alloc (by simp) (.cells #[.int .i64 F, .int .i64 T] 82)))
        have HSZ := hd (show w.heap.size ≤ ((wr.alloc (.cells #[.int .i64 F, .int .i64 T] 82)).alloc (.cells #[.int .i64 F, .int .i64 T] 82)).heap.size by simp; omega)
        have HG := hd (And.intro g1 (And.intro g2 g3))
        by_cases hc : F = 0 ∨ T - F > n
        · have HKE := hd (fillF_keep (bs := bs) (n := n) HFT.out hc)
          have H63 := hd (show (fillF bs gs n k).gap.length + 1 ≤ maxLen by unfold maxLen; omega)
          have HBY := hd (show ((fillF bs gs n k).gap.length + 1) * 16 ≤ 140737488355328 by omega)
          clear hlen g1 g2 g3
          by_cases hf : F = 0
          · subst hf
            go_wp2_with (at_builtin; refine wpList_append_own_at _ rfl _ _ 23 rfl w.heap.size 82 i0 (.agg #[.int .i64 0, .int .i64 0]) 2 16 Tryz.underlying23 hi hz0 hz1 hz2 rfl (by decide) _ _ _ rfl (own_bel HG.out.2.1 HBB.out) ⟨wr.heap.size + 1, 0, none⟩ 1 1 [.int .i64 0, .int .i64 T] rfl rfl HCT.out (by simp [Value.oneCell']) H63.out HBY.out HSZ.out ?_; intro v' w5 hown' hgrow _ hat; obtain ⟨A5, c5, hv5, -⟩ := own_form hown'; subst hv5; have HN := hd (And.intro hown' (And.intro hgrow hat)); have hb5 := (hgrow.block O (blk_lt ((HBB.out.block _ (blk_lt HG.out.1)).trans HG.out.1)) (blk_not_row ((HBB.out.block _ (blk_lt HG.out.1)).trans HG.out.1) (by decide) (own_bel HG.out.2.1 HBB.out))).trans ((HBB.out.block _ (blk_lt HG.out.1)).trans HG.out.1); have r3 := blk_cell hb5 3; have r4 := blk_frozen hb5 3; simp at r3; clear hown' hgrow hat hb5)
            go_roundw
            case rel => exact ⟨k + 1, by omega, by go_num, hd (by rw [HKE.out]; exact (HI.out.below HBB.out).keep hwO ((HBB.out.block _ (blk_lt HG.out.1)).trans HG.out.1) (own_bel HG.out.2.1 HBB.out) HG.out.2.2 HN.out.1 HN.out.2.1 HN.out.2.2)⟩
            case measure => simp [intOf]; omega
          · have hgt : T - F > n := by omega
            go_wp2_with (at_builtin; refine wpList_append_own_at _ rfl _ _ 23 rfl w.heap.size 82 i0 (.agg #[.int .i64 0, .int .i64 0]) 2 16 Tryz.underlying23 hi hz0 hz1 hz2 rfl (by decide) _ _ _ rfl (own_bel HG.out.2.1 HBB.out) ⟨wr.heap.size + 1, 0, none⟩ 1 1 [.int .i64 F, .int .i64 T] rfl rfl HCT.out (by simp [Value.oneCell']) H63.out HBY.out HSZ.out ?_; intro v' w5 hown' hgrow _ hat; obtain ⟨A5, c5, hv5, -⟩ := own_form hown'; subst hv5; have HN := hd (And.intro hown' (And.intro hgrow hat)); have hb5 := (hgrow.block O (blk_lt ((HBB.out.block _ (blk_lt HG.out.1)).trans HG.out.1)) (blk_not_row ((HBB.out.block _ (blk_lt HG.out.1)).trans HG.out.1) (by decide) (own_bel HG.out.2.1 HBB.out))).trans ((HBB.out.block _ (blk_lt HG.out.1)).trans HG.out.1); have r3 := blk_cell hb5 3; have r4 := blk_frozen hb5 3; simp at r3; clear hown' hgrow hat hb5)
            go_roundw
            case rel => exact ⟨k + 1, by omega, by go_num, hd (by rw [HKE.out]; exact (HI.out.below HBB.out).keep hwO ((HBB.out.block _ (blk_lt HG.out.1)).trans HG.out.1) (own_bel HG.out.2.1 HBB.out) HG.out.2.2 HN.out.1 HN.out.2.1 HN.out.2.2)⟩
            case measure => simp [intOf]; omega
        · obtain ⟨f, rfl⟩ : ∃ f : Nat, F = (f : Int) + 1 := ⟨(F - 1).toNat, by omega⟩
          obtain ⟨t, rfl⟩ : ∃ t : Nat, T = (t : Int) := ⟨T.toNat, by omega⟩
          have HKE := hd (fillF_fill (bs := bs) (n := n) (f := f + 1) HFT.out hc)
          have H63 := hd (show (fillF bs gs n k).fil.length + 1 ≤ maxLen by unfold maxLen; omega)
          have HBY := hd (show ((fillF bs gs n k).fil.length + 1) * 16 ≤ 140737488355328 by omega)
          have hf : ¬((f : Int) + 1 = 0) := by omega
          have hgt : ¬(n < (t : Int) - ((f : Int) + 1)) := by omega
          have hft2 : f + 1 < t := by omega
          have htb : t ≤ bs.length := by omega
          clear hlen g1 g2 g3 HG hc hsp
          go_wp2_with (at_builtin; refine wpList_append_own_at _ rfl _ _ 23 rfl w.heap.size 82 i0 (.agg #[.int .i64 0, .int .i64 0]) 2 16 Tryz.underlying23 hi hz0 hz1 hz2 rfl (by decide) _ _ _ rfl (own_bel HI.out.fil HBB.out) ⟨wr.heap.size + 1, 0, none⟩ 1 1 [.int .i64 ((f : Int) + 1), .int .i64 (t : Int)] rfl rfl HCT.out (by simp [Value.oneCell']) H63.out HBY.out HSZ.out ?_; intro v' w5 hown' hgrow _ hat; obtain ⟨A5, c5, hv5, -⟩ := own_form hown'; subst hv5; have HJ := hd ((HI.out.below HBB.out).fill hown' hgrow hat); have hb5 := (hgrow.block wr.heap.size (by simp; omega) (fun e => by have := (HI.out.fil.lt _ e.symm).2; omega)).trans ((Below.heap_alloc _ _ _ (by simp)).trans (blk_new wr _ _)); have r0 := blk_cell hb5 0; simp at r0; have HBX := hd hb5; clear hown' hgrow hat hb5)
          obtain ⟨SB, hSB⟩ : ∃ SB, SB = wr.heap.size := ⟨_, rfl⟩
          rw [← hSB] at HBX ⊢
          clear hSB r0
          go_loopw [10] (fun i wq => ∃ j : Nat, f + 1 ≤ j ∧ j ≤ t ∧ i = .int .i64 (j : Int) ∧ Hid (FJ w.heap.size O bs.length w #[.string nm, .int .i64 st, .slice A1 bs.length c1, .slice (some ⟨b, off, none⟩) gs.length c2] nm st (.slice A4 bs.length c4) ⟨(setK (fillF bs gs n k).lev (f + 1) j (bs.getD f 0)), (fillF bs gs n k).gap, (fillF bs gs n k).fil ++ [((f : Int) + 1, (t : Int))]⟩ (.slice A5 ((fillF bs gs n k).fil.length + 1) c5) wq) ∧ Hid (wq.heap[SB]? = some (.cells #[.int .i64 ((f : Int) + 1), .int .i64 (t : Int)] 82 (0, 0)))) (fun i _ => t - (intOf i).toNat)
          case atStart => exact ⟨f + 1, Nat.le_refl _, by omega, rfl, hd (by rw [setK_zero]; exact HJ.out), HBX⟩
          case round =>
            obtain ⟨j, hj1, hj2, rfl, HJ, HBX⟩ := hrel
            have x0 := blk_cell HBX.out 0
            have x1 := blk_cell HBX.out 1
            simp at x0 x1
            by_cases hjt : j < t
            · have hjt' : (j : Int) < (t : Int) := by omega
              obtain ⟨A', c', e', -, -, hx⟩ := (HRD.out _ HJ.out.bel).1
              cases e'
              obtain ⟨b1, off1, rfl, -, hcell⟩ := hx (by omega)
              obtain ⟨v1, hv1⟩ : ∃ v, v = bs.getD f 0 := ⟨_, rfl⟩
              have hc1 : wr.cell? ⟨b1, off1 + f, none⟩ = some (.float .f32 v1) := by
                have := hcell f (by simp [flc]; omega)
                rw [this, hv1]; simp [flc, show f < bs.length by omega]
              obtain ⟨A'', c'', e'', hx4⟩ := own_form HJ.out.lev
              cases e''
              obtain ⟨g4, rfl⟩ := hx4 (by omega)
              have l0 := HJ.out.lev.cellAt j (by omega)
              have l1 := HJ.out.lev.frozenAt j
              obtain ⟨GW, y1, y2, -⟩ := HJ.out.out
              have o2 := blk_cell y1 2
              have n2 := blk_cell HJ.out.rec0 2
              simp at o2 n2
              have l0' : wr.cell? ⟨g4, j, none⟩ = some (((flc (setK (fillF bs gs n k).lev (f + 1) j (bs.getD f 0)))[j]?).getD undef) := by
                rw [l0]; cases h : (flc (setK (fillF bs gs n k).lev (f + 1) j (bs.getD f 0)))[j]? with
                | some v => rfl
                | none => rw [List.getElem?_eq_none_iff] at h; simp [flc, setK_len, (fillF_len bs gs n k).1] at h; omega
              generalize ((flc (setK (fillF bs gs n k).lev (f + 1) j (bs.getD f 0)))[j]?).getD undef = lx at l0'
              have hji : (j : Int) < (bs.length : Int) := by omega
              have hfi : (f : Int) < (bs.length : Int) := by omega
              have HV1 := hd hv1
              clear l0 y1 y2 hcell hx hx4 hv1
              go_wp2_with fail
              go_big_region
              go_wp2
              go_roundw
              case rel => exact ⟨j + 1, by omega, by omega, by go_num, hd (HJ.out.put (HJ.out.lev.lt g4 rfl).1 j (by rw [HV1.out]; exact setK_step _ _ _ _ hj1)).drew, hd ((Below.heap_setCell wr ⟨g4, j, none⟩ _ _ (by
                show SB ≠ g4
                intro e
                subst e
                obtain ⟨cs, hcs⟩ := own_blk HJ.out.lev
                rw [HBX.out] at hcs
                cases hcs)).trans HBX.out)⟩
              case measure => simp [intOf]; omega
            · have hjt' : ¬((j : Int) < (t : Int)) := by omega
              obtain rfl : j = t := by omega
              go_wp2
              go_roundw
              case rel => exact ⟨k + 1, by omega, by go_num, hd (by rw [HKE.out]; exact HJ.out)⟩
              case measure => simp [intOf]; omega
      · obtain rfl : k = gs.length := by omega
        obtain ⟨GV, g1, g2, g3⟩ := HI.out.out
        obtain ⟨Ag, cg, hgv, -⟩ := own_form g2
        subst hgv
        have o0 := blk_cell g1 0
        have o1 := blk_cell g1 1
        have o2 := blk_cell g1 2
        have o3 := blk_cell g1 3
        have n0 := blk_cell HI.out.rec1 0
        have n1 := blk_cell HI.out.rec1 1
        have n2 := blk_cell HI.out.rec1 2
        have n3 := blk_cell HI.out.rec1 3
        simp at o0 o1 o2 o3 n0 n1 n2 n3
        have m0 := blk_frozen HI.out.rec1 0
        have m1 := blk_frozen HI.out.rec1 1
        have m2 := blk_frozen HI.out.rec1 2
        have m3 := blk_frozen HI.out.rec1 3
        have HDN := hd (HI.out.done g2 (.string nm) (.int .i64 st) (.slice A4 bs.length c4) (.slice Ag (fillF bs gs n gs.length).gap.length cg))
        clear g1 g2 g3
        go_wp2
        change bodyPost _ _ _ _ _ (set4 wr (w.heap.size + 1) (.string nm) (.int .i64 st) (.slice A4 bs.length c4) (.slice Ag (fillF bs gs n gs.length).gap.length cg))
        obtain ⟨d1, d2, d3, d4, d5⟩ := HDN.out
        generalize (set4 wr (w.heap.size + 1) (.string nm) (.int .i64 st) (.slice A4 bs.length c4) (.slice Ag (fillF bs gs n gs.length).gap.length cg)) = WE at *
        have u0 := blk_cell d5 0
        have u1 := blk_cell d5 1
        have u2 := blk_cell d5 2
        have u3 := blk_cell d5 3
        simp at u0 u1 u2 u3
        exact bodyPost_ret (v := .tuple #[.agg #[.string nm, .int .i64 st, .slice A4 bs.length c4, .slice Ag (fillF bs gs n gs.length).gap.length cg], u7]) (by simp [results, Tryz.results21, go_sem, u0, u1, u2, u3]) rfl ⟨_, _, _, rfl, d1, d2, d3, d4⟩
end Go.Proofs.YtcekfcefdmejeaaGreatDoor

namespace Go.Proofs.YtcekfcefdmejeaaGreatDoor
open Go.RowKit
attribute [local go_sem] Oper.semAt_some

set_option maxRecDepth 1000000 in
set_option maxHeartbeats 4000000 in
theorem apply_bad (nm : ByteArray) (st : Int) (A A2 A3 : Option Addr) (c c2 c3 : Nat) (bs : List Nat) (gs : List (Int × Int)) (l : List Ru) (E : Int) (w : World) (HL : Hid (Rd w w.heap.size (.slice A bs.length c) bs.length (flc bs))) (HG : Hid (Rd w w.heap.size (.slice A2 gs.length c2) gs.length (spc gs))) (HU : Hid (Rd w w.heap.size (.slice A3 l.length c3) l.length (ruc l))) (hs : nm.size ≤ maxLen)
    (hE : fst0 [chkRec nm st bs gs, chkRules l] = E) (h0 : (E != 0) = true) :
    Calls Tryz.prog 46 #[.agg #[.string nm, .int .i64 st, .slice A bs.length c, .slice A2 gs.length c2], .slice A3 l.length c3] w fun e w' => e = .returned (.tuple #[.agg #[.string ⟨#[]⟩, .int .i64 0, .slice none 0 0, .slice none 0 0], .slice none 0 0, .int .i64 E]) ∧ Below w.heap.size w w' := by
  have HE := hd hE
  obtain ⟨x1, hx1⟩ : ∃ x, x = chkRec nm st bs gs := ⟨_, rfl⟩
  obtain ⟨x2, hx2⟩ : ∃ x, x = chkRules l := ⟨_, rfl⟩
  have CR := hd (fun W h h' => show Calls Tryz.prog 50 #[.agg #[.string nm, .int .i64 st, .slice A bs.length c, .slice A2 gs.length c2]] W fun e w' => e = .returned (.int .i64 x1) ∧ Below W.heap.size W w' from by rw [hx1]; exact chkRec_any nm st _ _ bs gs W h h' hs)
  have CU := hd (fun W h => show Calls Tryz.prog 99 #[.slice A3 l.length c3] W fun e w' => e = .returned (.int .i64 x2) ∧ Below W.heap.size W w' from by rw [hx2]; exact chkRules_any _ l W h)
  rw [← hx1, ← hx2] at HE
  clear hE hx1 hx2 hs
  obtain ⟨W0, hW0⟩ : ∃ W0, W0 = ((w.alloc (.cells #[.string nm, .int .i64 st, .slice A bs.length c, .slice A2 gs.length c2] 34)).alloc (.cells #[.string ⟨#[]⟩, .int .i64 0, .slice none 0 0, .slice none 0 0] 34)) := ⟨_, rfl⟩
  have hb0 : Below w.heap.size w W0 := by rw [hW0]; exact ((Below.refl _ w).alloc (Nat.le_refl _) _).alloc (by simp) _
  have hr : W0.heap[w.heap.size + 1]? = some (.cells #[.string ⟨#[]⟩, .int .i64 0, .slice none 0 0, .slice none 0 0] 34 (0, 0)) := by
    have h1 := blk_new (w.alloc (.cells #[.string nm, .int .i64 st, .slice A bs.length c, .slice A2 gs.length c2] 34)) #[.string ⟨#[]⟩, .int .i64 0, .slice none 0 0, .slice none 0 0] 34
    simp only [World.size_alloc] at h1
    rw [hW0]; exact h1
  have RL := hd ((HL.out.below hb0 (Nat.le_refl _)).mono hb0.size)
  have RG := hd ((HG.out.below hb0 (Nat.le_refl _)).mono hb0.size)
  have RU := hd ((HU.out.below hb0 (Nat.le_refl _)).mono hb0.size)
  have HR := hd hr
  have HB0 := hd hb0
  clear hr hb0
  go_enter Tryz.func46, Tryz.ntmps46
  go_wp2_with fail
  rw [← hW0]
  clear hW0
  refine (CR.out _ RL.out RG.out).mono ?_
  rintro e w1 ⟨rfl, hb1⟩
  have RU1 := hd ((RU.out.below hb1 (Nat.le_refl _)).mono hb1.size)
  have H1 := hd hb1
  clear hb1
  go_wp2_with fail
  refine (CU.out _ RU1.out).mono ?_
  rintro e w2 ⟨rfl, hb2⟩
  have hb12 := H1.out.trans (hb2.mono H1.out.size)
  have HB3 := hd (hb12.alloc hb12.size (.cells #[.int .i64 x1, .int .i64 x2] 31))
  clear hb2 hb12 H1
  go_wp2_with fail
  obtain ⟨W3, hW3⟩ : ∃ W3, W3 = w2.alloc (.cells #[.int .i64 x1, .int .i64 x2] 31) := ⟨_, rfl⟩
  rw [← hW3] at HB3
  have hb := HB3.out
  have hq := (hb.block _ (blk_lt HR.out)).trans HR.out
  have z := set4_blk hq (.string ⟨#[]⟩) (.int .i64 0) (.slice none 0 0) (.slice none 0 0)
  have z0 := blk_cell z 0
  have z1 := blk_cell z 1
  have z2 := blk_cell z 2
  have z3 := blk_cell z 3
  simp at z0 z1 z2 z3
  have k0 := blk_cell hq 0
  have k1 := blk_cell hq 1
  have k2 := blk_cell hq 2
  have k3 := blk_cell hq 3
  simp at k0 k1 k2 k3
  have f0 := blk_frozen hq 0
  have f1 := blk_frozen hq 1
  have f2 := blk_frozen hq 2
  have f3 := blk_frozen hq 3
  have HBZ := hd (set4_below (HB0.out.trans (hb.mono HB0.out.size)) (R := w.heap.size + 1) (by omega) (.string ⟨#[]⟩) (.int .i64 0) (.slice none 0 0) (.slice none 0 0))
  clear hb hq z
  clear HB3
  refine (first2 x1 x2 _ w2).mono ?_
  rintro e w' ⟨rfl, rfl⟩
  rw [HE.out, ← hW3]
  clear hW3
  go_wp2
  change bodyPost _ _ _ _ _ (set4 W3 (w.heap.size + 1) (.string ⟨#[]⟩) (.int .i64 0) (.slice none 0 0) (.slice none 0 0))
  generalize set4 W3 (w.heap.size + 1) (.string ⟨#[]⟩) (.int .i64 0) (.slice none 0 0) (.slice none 0 0) = W6 at *
  exact bodyPost_ret (v := .tuple #[.agg #[.string ⟨#[]⟩, .int .i64 0, .slice none 0 0, .slice none 0 0], .slice none 0 0, .int .i64 E]) (by simp [results, Tryz.results46, go_sem, z0, z1, z2, z3]) rfl ⟨rfl, HBZ.out⟩

set_option maxRecDepth 1000000 in
set_option maxHeartbeats 4000000 in
theorem reasons_bad (nm : ByteArray) (st : Int) (A A2 A3 : Option Addr) (c c2 c3 : Nat) (bs : List Nat) (gs : List (Int × Int)) (l : List Ru) (E : Int) (w : World) (HL : Hid (Rd w w.heap.size (.slice A bs.length c) bs.length (flc bs))) (HG : Hid (Rd w w.heap.size (.slice A2 gs.length c2) gs.length (spc gs))) (HU : Hid (Rd w w.heap.size (.slice A3 l.length c3) l.length (ruc l))) (hs : nm.size ≤ maxLen)
    (hE : fst0 [chkRec nm st bs gs, chkRules l] = E) (h0 : (E != 0) = true) :
    Calls Tryz.prog 10 #[.agg #[.string nm, .int .i64 st, .slice A bs.length c, .slice A2 gs.length c2], .slice A3 l.length c3] w fun e w' => e = .returned (.tuple #[.slice none 0 0, .int .i64 E]) ∧ Below w.heap.size w w' := by
  obtain ⟨W0, hW0⟩ : ∃ W0, W0 = w.alloc (.cells #[.string nm, .int .i64 st, .slice A bs.length c, .slice A2 gs.length c2] 34) := ⟨_, rfl⟩
  have hb0 : Below w.heap.size w W0 := by rw [hW0]; exact (Below.refl _ w).alloc (Nat.le_refl _) _
  have HB0 := hd hb0
  have HA := hd (apply_bad nm st A A2 A3 c c2 c3 bs gs l E W0 (hd ((HL.out.below hb0 (Nat.le_refl _)).mono hb0.size)) (hd ((HG.out.below hb0 (Nat.le_refl _)).mono hb0.size)) (hd ((HU.out.below hb0 (Nat.le_refl _)).mono hb0.size)) hs hE h0)
  clear hb0 hE h0 hs
  go_enter Tryz.func10, Tryz.ntmps10
  go_wp2_with fail
  rw [← hW0]
  clear hW0
  refine HA.out.mono ?_
  rintro e w1 ⟨rfl, hb⟩
  have HB1 := hd (HB0.out.trans (hb.mono HB0.out.size))
  have HB2 := hd (HB1.out.alloc HB1.out.size (.cells #[.string ⟨#[]⟩, .int .i64 0, .slice none 0 0, .slice none 0 0] 34))
  clear hb
  go_wp2
  go_returns
  first | exact ⟨rfl, HB1.out⟩ | exact ⟨rfl, HB2.out⟩

set_option maxRecDepth 1000000 in
set_option maxHeartbeats 4000000 in
theorem clean_bad (nm : ByteArray) (st : Int) (A A2 A3 : Option Addr) (c c2 c3 : Nat) (bs : List Nat) (gs : List (Int × Int)) (l : List Ru) (E : Int) (w : World) (HL : Hid (Rd w w.heap.size (.slice A bs.length c) bs.length (flc bs))) (HG : Hid (Rd w w.heap.size (.slice A2 gs.length c2) gs.length (spc gs))) (HU : Hid (Rd w w.heap.size (.slice A3 l.length c3) l.length (ruc l))) (hs : nm.size ≤ maxLen)
    (hE : fst0 [chkRec nm st bs gs, chkRules l] = E) (h0 : (E != 0) = true) :
    Calls Tryz.prog 13 #[.agg #[.string nm, .int .i64 st, .slice A bs.length c, .slice A2 gs.length c2], .slice A3 l.length c3] w fun e w' => e = .returned (.tuple #[.agg #[.string ⟨#[]⟩, .int .i64 0, .slice none 0 0, .slice none 0 0], .int .i64 E]) ∧ Below w.heap.size w w' := by
  obtain ⟨W0, hW0⟩ : ∃ W0, W0 = ((w.alloc (.cells #[.string nm, .int .i64 st, .slice A bs.length c, .slice A2 gs.length c2] 34)).alloc (.cells #[.string ⟨#[]⟩, .int .i64 0, .slice none 0 0, .slice none 0 0] 34)) := ⟨_, rfl⟩
  have hb0 : Below w.heap.size w W0 := by rw [hW0]; exact ((Below.refl _ w).alloc (Nat.le_refl _) _).alloc (by simp) _
  have hr : W0.heap[w.heap.size + 1]? = some (.cells #[.string ⟨#[]⟩, .int .i64 0, .slice none 0 0, .slice none 0 0] 34 (0, 0)) := by
    have h1 := blk_new (w.alloc (.cells #[.string nm, .int .i64 st, .slice A bs.length c, .slice A2 gs.length c2] 34)) #[.string ⟨#[]⟩, .int .i64 0, .slice none 0 0, .slice none 0 0] 34
    simp only [World.size_alloc] at h1
    rw [hW0]; exact h1
  have HR := hd hr
  have HB0 := hd hb0
  have HA := hd (apply_bad nm st A A2 A3 c c2 c3 bs gs l E W0 (hd ((HL.out.below hb0 (Nat.le_refl _)).mono hb0.size)) (hd ((HG.out.below hb0 (Nat.le_refl _)).mono hb0.size)) (hd ((HU.out.below hb0 (Nat.le_refl _)).mono hb0.size)) hs hE h0)
  clear hb0 hE h0 hs hr
  go_enter Tryz.func13, Tryz.ntmps13
  go_wp2_with fail
  rw [← hW0]
  clear hW0
  refine HA.out.mono ?_
  rintro e w1 ⟨rfl, hb⟩
  have HB1 := hd (hb.alloc hb.size (.cells #[.string ⟨#[]⟩, .int .i64 0, .slice none 0 0, .slice none 0 0] 34))
  obtain ⟨W3, hW3⟩ : ∃ W3, W3 = w1.alloc (.cells #[.string ⟨#[]⟩, .int .i64 0, .slice none 0 0, .slice none 0 0] 34) := ⟨_, rfl⟩
  have hn0 := blk_new w1 #[.string ⟨#[]⟩, .int .i64 0, .slice none 0 0, .slice none 0 0] 34
  rw [← hW3] at HB1 hn0
  have n0 := blk_cell hn0 0
  have n1 := blk_cell hn0 1
  have n2 := blk_cell hn0 2
  have n3 := blk_cell hn0 3
  simp at n0 n1 n2 n3
  clear hb
  have hb := HB1.out
  have hq := (hb.block _ (blk_lt HR.out)).trans HR.out
  have z := set4_blk hq (.string ⟨#[]⟩) (.int .i64 0) (.slice none 0 0) (.slice none 0 0)
  have z0 := blk_cell z 0
  have z1 := blk_cell z 1
  have z2 := blk_cell z 2
  have z3 := blk_cell z 3
  simp at z0 z1 z2 z3
  have k0 := blk_cell hq 0
  have k1 := blk_cell hq 1
  have k2 := blk_cell hq 2
  have k3 := blk_cell hq 3
  simp at k0 k1 k2 k3
  have f0 := blk_frozen hq 0
  have f1 := blk_frozen hq 1
  have f2 := blk_frozen hq 2
  have f3 := blk_frozen hq 3
  have HBZ := hd (set4_below (HB0.out.trans (hb.mono HB0.out.size)) (R := w.heap.size + 1) (by omega) (.string ⟨#[]⟩) (.int .i64 0) (.slice none 0 0) (.slice none 0 0))
  clear hb hq z
  rw [hW3] at k0 k1 k2 k3 f0 f1 f2 f3 n0 n1 n2 n3
  go_wp2
  rw [← hW3]
  change bodyPost _ _ _ _ _ (set4 W3 (w.heap.size + 1) (.string ⟨#[]⟩) (.int .i64 0) (.slice none 0 0) (.slice none 0 0))
  generalize set4 W3 (w.heap.size + 1) (.string ⟨#[]⟩) (.int .i64 0) (.slice none 0 0) (.slice none 0 0) = W6 at *
  exact bodyPost_ret (v := .tuple #[.agg #[.string ⟨#[]⟩, .int .i64 0, .slice none 0 0, .slice none 0 0], .int .i64 E]) (by simp [results, Tryz.results13, go_sem, z0, z1, z2, z3]) rfl ⟨rfl, HBZ.out⟩

set_option maxRecDepth 1000000 in
set_option maxHeartbeats 4000000 in
theorem fill_bad (nm : ByteArray) (st : Int) (A A2 : Option Addr) (c c2 : Nat) (bs : List Nat) (gs : List (Int × Int)) (n E : Int) (w : World) (HL : Hid (Rd w w.heap.size (.slice A bs.length c) bs.length (flc bs))) (HG : Hid (Rd w w.heap.size (.slice A2 gs.length c2) gs.length (spc gs))) (hs : nm.size ≤ maxLen)
    (hE : fst0 [chkRec nm st bs gs, rng n 0 4096] = E) (h0 : (E != 0) = true) :
    Calls Tryz.prog 14 #[.agg #[.string nm, .int .i64 st, .slice A bs.length c, .slice A2 gs.length c2], .int .i64 n] w fun e w' => e = .returned (.tuple #[.agg #[.string ⟨#[]⟩, .int .i64 0, .slice none 0 0, .slice none 0 0], .slice none 0 0, .int .i64 E]) ∧ Below w.heap.size w w' := by
  have HE := hd hE
  obtain ⟨x1, hx1⟩ : ∃ x, x = chkRec nm st bs gs := ⟨_, rfl⟩
  have CR := hd (fun W h h' => show Calls Tryz.prog 50 #[.agg #[.string nm, .int .i64 st, .slice A bs.length c, .slice A2 gs.length c2]] W fun e w' => e = .returned (.int .i64 x1) ∧ Below W.heap.size W w' from by rw [hx1]; exact chkRec_any nm st _ _ bs gs W h h' hs)
  rw [← hx1] at HE
  obtain ⟨x2, hx2⟩ : ∃ x, x = rng n 0 4096 := ⟨_, rfl⟩
  have CU := hd (fun W => show Calls Tryz.prog 51 #[.int .i64 n, .int .i64 0, .int .i64 4096] W fun e w' => e = .returned (.int .i64 x2) ∧ W = w' from by rw [hx2]; exact rng_any n 0 4096 W)
  rw [← hx2] at HE
  clear hE hx1 hx2 hs
  obtain ⟨W0, hW0⟩ : ∃ W0, W0 = ((w.alloc (.cells #[.string nm, .int .i64 st, .slice A bs.length c, .slice A2 gs.length c2] 34)).alloc (.cells #[.string ⟨#[]⟩, .int .i64 0, .slice none 0 0, .slice none 0 0] 34)) := ⟨_, rfl⟩
  have hb0 : Below w.heap.size w W0 := by rw [hW0]; exact ((Below.refl _ w).alloc (Nat.le_refl _) _).alloc (by simp) _
  have hr : W0.heap[w.heap.size + 1]? = some (.cells #[.string ⟨#[]⟩, .int .i64 0, .slice none 0 0, .slice none 0 0] 34 (0, 0)) := by
    have h1 := blk_new (w.alloc (.cells #[.string nm, .int .i64 st, .slice A bs.length c, .slice A2 gs.length c2] 34)) #[.string ⟨#[]⟩, .int .i64 0, .slice none 0 0, .slice none 0 0] 34
    simp only [World.size_alloc] at h1
    rw [hW0]; exact h1
  have RL := hd ((HL.out.below hb0 (Nat.le_refl _)).mono hb0.size)
  have RG := hd ((HG.out.below hb0 (Nat.le_refl _)).mono hb0.size)
  have HR := hd hr
  have HB0 := hd hb0
  clear hr hb0
  go_enter Tryz.func14, Tryz.ntmps14
  go_wp2_with fail
  rw [← hW0]
  clear hW0
  refine (CR.out _ RL.out RG.out).mono ?_
  rintro e w1 ⟨rfl, hb1⟩
  have H1 := hd hb1
  clear hb1
  go_wp2_with fail
  refine (CU.out _).mono ?_
  rintro e w2 ⟨rfl, rfl⟩
  have HB3 := hd (H1.out.alloc H1.out.size (.cells #[.int .i64 x1, .int .i64 x2] 31))
  clear H1
  go_wp2_with fail
  obtain ⟨W3, hW3⟩ : ∃ W3, W3 = w1.alloc (.cells #[.int .i64 x1, .int .i64 x2] 31) := ⟨_, rfl⟩
  rw [← hW3] at HB3
  have hb := HB3.out
  have hq := (hb.block _ (blk_lt HR.out)).trans HR.out
  have z := set4_blk hq (.string ⟨#[]⟩) (.int .i64 0) (.slice none 0 0) (.slice none 0 0)
  have z0 := blk_cell z 0
  have z1 := blk_cell z 1
  have z2 := blk_cell z 2
  have z3 := blk_cell z 3
  simp at z0 z1 z2 z3
  have k0 := blk_cell hq 0
  have k1 := blk_cell hq 1
  have k2 := blk_cell hq 2
  have k3 := blk_cell hq 3
  simp at k0 k1 k2 k3
  have f0 := blk_frozen hq 0
  have f1 := blk_frozen hq 1
  have f2 := blk_frozen hq 2
  have f3 := blk_frozen hq 3
  have HBZ := hd (set4_below (HB0.out.trans (hb.mono HB0.out.size)) (R := w.heap.size + 1) (by omega) (.string ⟨#[]⟩) (.int .i64 0) (.slice none 0 0) (.slice none 0 0))
  clear hb hq z
  clear HB3
  refine (first2 x1 x2 _ w1).mono ?_
  rintro e w' ⟨rfl, rfl⟩
  rw [HE.out, ← hW3]
  clear hW3
  go_wp2
  change bodyPost _ _ _ _ _ (set4 W3 (w.heap.size + 1) (.string ⟨#[]⟩) (.int .i64 0) (.slice none 0 0) (.slice none 0 0))
  generalize set4 W3 (w.heap.size + 1) (.string ⟨#[]⟩) (.int .i64 0) (.slice none 0 0) (.slice none 0 0) = W6 at *
  exact bodyPost_ret (v := .tuple #[.agg #[.string ⟨#[]⟩, .int .i64 0, .slice none 0 0, .slice none 0 0], .slice none 0 0, .int .i64 E]) (by simp [results, Tryz.results14, go_sem, z0, z1, z2, z3]) rfl ⟨rfl, HBZ.out⟩
end Go.Proofs.YtcekfcefdmejeaaGreatDoor
