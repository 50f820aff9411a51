/-
  Contracts of what the statements tell of a record and an error, and an append as an operation of a region. Conditions: written at each.
-/
import Derived.Test.YtnncmaegmlaabaaGreatDoorProg
import Derived.Test.YtnncmaegmlaabaaGreatDoorMR
import Derived.Test.YtnncmaegmlaabaaGreatDoorMI
import Derived.Test.YtnncmaegmlaabaaGreatDoorMS
import Derived.Test.YtnncmaegmlaabaaGreatDoorH2
import Derived.Deep.RegionHeld3
import Derived.Deep.Cut
import Derived.Test.YtnncmaegmlaabaaGreatDoorT0
import Derived.Test.YtnncmaegmlaabaaGreatDoorT1

namespace Go.Proofs.YtnncmaegmlaabaaGreatDoor
open Go.RowKit
attribute [local go_sem] Oper.semAt_some

set_option maxRecDepth 1000000 in
set_option maxHeartbeats 4000000 in
theorem sameRec_yes (nm : ByteArray) (st : Int) (l1 g1 l2 g2 : Value) (b1 b2 : List Nat) (s1 s2 : List (Int × Int)) (w : World) (hl1 : Rd w w.heap.size l1 b1.length (flc b1)) (hg1 : Rd w w.heap.size g1 s1.length (spc s1)) (hl2 : Rd w w.heap.size l2 b2.length (flc b2)) (hg2 : Rd w w.heap.size g2 s2.length (spc s2))
    (hL : sameF feqL 0 b1 b2 = true) (hG : sameF (fun x y : Int × Int => x == y) (0, 0) s1 s2 = true) :
    Calls Tryz.prog 17 #[.agg #[.string nm, .int .i64 st, l1, g1], .agg #[.string nm, .int .i64 st, l2, g2]] w fun e w' => e = .returned (.bool true) ∧ Below w.heap.size w w' := by
  have H1 := hd hl1
  have H2 := hd hg1
  have H3 := hd hl2
  have H4 := hd hg2
  have HL := hd hL
  have HG := hd hG
  obtain ⟨A1, c1, rfl, -⟩ := hl1
  obtain ⟨A2, c2, rfl, -⟩ := hg1
  obtain ⟨A3, c3, rfl, -⟩ := hl2
  obtain ⟨A4, c4, rfl, -⟩ := hg2
  obtain ⟨W1, hW1⟩ : ∃ W1, W1 = ((w.alloc (Obj.cells #[.string nm, .int .i64 st, .slice A1 b1.length c1, .slice A2 s1.length c2] 25)).alloc (Obj.cells #[.string nm, .int .i64 st, .slice A3 b2.length c3, .slice A4 s2.length c4] 25)) := ⟨_, rfl⟩
  have hB : Below w.heap.size w W1 := by rw [hW1]; exact ((Below.refl _ w).alloc (Nat.le_refl _) _).alloc (by simp) _
  have hq : W1.heap[w.heap.size]? = some (.cells #[.string nm, .int .i64 st, .slice A1 b1.length c1, .slice A2 s1.length c2] 25 (0, 0)) := by
    rw [hW1, Below.heap_alloc _ _ _ (by simp)]; exact blk_new _ _ _
  have hr : W1.heap[w.heap.size + 1]? = some (.cells #[.string nm, .int .i64 st, .slice A3 b2.length c3, .slice A4 s2.length c4] 25 (0, 0)) := by
    have h1 := blk_new (w.alloc (Obj.cells #[.string nm, .int .i64 st, .slice A1 b1.length c1, .slice A2 s1.length c2] 25)) #[.string nm, .int .i64 st, .slice A3 b2.length c3, .slice A4 s2.length c4] 25
    simp only [World.size_alloc] at h1
    rw [hW1]; exact h1
  have HB := hd hB
  have HQ := hd hq
  have HR := hd hr
  have HR1 := hd ((H1.out.below hB (Nat.le_refl _)).mono hB.size)
  have HR2 := hd ((H2.out.below hB (Nat.le_refl _)).mono hB.size)
  have HR3 := hd ((H3.out.below hB (Nat.le_refl _)).mono hB.size)
  have HR4 := hd ((H4.out.below hB (Nat.le_refl _)).mono hB.size)
  have q2 := blk_cell hq 2
  have q3 := blk_cell hq 3
  have r2 := blk_cell hr 2
  have r3 := blk_cell hr 3
  have q0 := blk_cell hq 0
  have q1 := blk_cell hq 1
  have r0 := blk_cell hr 0
  have r1 := blk_cell hr 1
  simp at q0 q1 q2 q3 r0 r1 r2 r3
  clear hL hG hB hq hr
  go_enter Tryz.func17, Tryz.ntmps17
  go_wp2_with fail
  rw [← hW1]
  refine (sameLevels_any _ _ b1 b2 _ HR1.out HR3.out).mono ?_
  rw [HL.out]
  rintro e w1 ⟨rfl, hb⟩
  have k3 := blk_cell ((hb.block _ (blk_lt HQ.out)).trans HQ.out) 3
  have m3 := blk_cell ((hb.block _ (blk_lt HR.out)).trans HR.out) 3
  simp at k3 m3
  have HS2 := hd ((HR2.out.below hb (Nat.le_refl _)).mono hb.size)
  have HS4 := hd ((HR4.out.below hb (Nat.le_refl _)).mono hb.size)
  have HB1 := hd (HB.out.trans (hb.mono HB.out.size))
  clear hb q0 q1 q2 q3 r0 r1 r2 r3 hW1
  go_wp2_with fail
  refine (sameSpans_any _ _ s1 s2 _ HS2.out HS4.out).mono ?_
  rw [HG.out]
  rintro e w2 ⟨rfl, hb⟩
  have HB2 := hd (HB1.out.trans (hb.mono HB1.out.size))
  clear hb k3 m3
  go_wp2_with fail
  go_returns
  exact ⟨rfl, HB2.out⟩

set_option maxRecDepth 1000000 in
theorem own_rec (nm : ByteArray) (st : Int) (A A2 : Option Addr) (n c n2 c2 : Nat) (w : World) :
    Calls Tryz.prog 18 #[.agg #[.string nm, .int .i64 st, .slice A n c, .slice A2 n2 c2]] w fun e w' => e = .returned (.agg #[.string nm, .int .i64 st, .slice A n c, .slice A2 n2 c2]) ∧ Below w.heap.size w w' := by
  have HB := hd (((Below.refl w.heap.size w).alloc (Nat.le_refl _) (Obj.cells #[.string nm, .int .i64 st, .slice A n c, .slice A2 n2 c2] 31)).alloc (by simp) (Obj.cells #[.string nm, .int .i64 st, .slice A n c, .slice A2 n2 c2] 25))
  go_enter Tryz.func18, Tryz.ntmps18
  go_wp2_with fail
  go_returns
  exact ⟨rfl, HB.out⟩

set_option maxRecDepth 1000000 in
set_option maxHeartbeats 4000000 in
/-- An error that is the expected one, with the empty record. -/
theorem told_bad (x : Int) (nm : ByteArray) (st : Int) (A A2 : Option Addr) (n c n2 c2 : Nat) (w : World) (hx : (x != 0) = true) :
    Calls Tryz.prog 14 #[.agg #[.string ⟨#[]⟩, .int .i64 0, .slice none 0 0, .slice none 0 0], .int .i64 x, .int .i64 x, .agg #[.string nm, .int .i64 st, .slice A n c, .slice A2 n2 c2]] w fun e w' => e = .returned (.bool true) ∧ Below w.heap.size w w' := by
  have HB := hd (((Below.refl w.heap.size w).alloc (Nat.le_refl _) (Obj.cells #[.string ⟨#[]⟩, .int .i64 0, .slice none 0 0, .slice none 0 0] 31)).alloc (by simp) (Obj.cells #[.string nm, .int .i64 st, .slice A n c, .slice A2 n2 c2] 25))
  go_enter Tryz.func14, Tryz.ntmps14
  go_wp2_with fail
  refine (own_rec ⟨#[]⟩ 0 none none 0 0 0 0 _).mono ?_
  rintro e w1 ⟨rfl, hb⟩
  have HB1 := hd (HB.out.trans (hb.mono HB.out.size))
  clear hb
  go_wp2_with fail
  refine (sameRec_yes ⟨#[]⟩ 0 _ _ _ _ [] [] [] [] _ (Rd.nil _ _) (Rd.nil _ _) (Rd.nil _ _) (Rd.nil _ _) rfl rfl).mono ?_
  rintro e w2 ⟨rfl, hb⟩
  have HB2 := hd (HB1.out.trans (hb.mono HB1.out.size))
  clear hb
  go_wp2_with fail
  go_returns
  exact ⟨rfl, HB2.out⟩

set_option maxRecDepth 1000000 in
set_option maxHeartbeats 4000000 in
/-- A record that is the expected one, without an error. -/
theorem told_ok (nm : ByteArray) (st : Int) (l1 g1 l2 g2 : Value) (b1 b2 : List Nat) (s1 s2 : List (Int × Int)) (w : World) (hl1 : Rd w w.heap.size l1 b1.length (flc b1)) (hg1 : Rd w w.heap.size g1 s1.length (spc s1)) (hl2 : Rd w w.heap.size l2 b2.length (flc b2)) (hg2 : Rd w w.heap.size g2 s2.length (spc s2))
    (hL : sameF feqL 0 b1 b2 = true) (hG : sameF (fun x y : Int × Int => x == y) (0, 0) s1 s2 = true) :
    Calls Tryz.prog 14 #[.agg #[.string nm, .int .i64 st, l1, g1], .int .i64 0, .int .i64 0, .agg #[.string nm, .int .i64 st, l2, g2]] w fun e w' => e = .returned (.bool true) ∧ Below w.heap.size w w' := by
  have H1 := hd hl1
  have H2 := hd hg1
  have H3 := hd hl2
  have H4 := hd hg2
  have HL := hd hL
  have HG := hd hG
  obtain ⟨A1, c1, rfl, -⟩ := hl1
  obtain ⟨A2, c2, rfl, -⟩ := hg1
  obtain ⟨A3, c3, rfl, -⟩ := hl2
  obtain ⟨A4, c4, rfl, -⟩ := hg2
  obtain ⟨W1, hW1⟩ : ∃ W1, W1 = ((w.alloc (Obj.cells #[.string nm, .int .i64 st, .slice A1 b1.length c1, .slice A2 s1.length c2] 31)).alloc (Obj.cells #[.string nm, .int .i64 st, .slice A3 b2.length c3, .slice A4 s2.length c4] 25)) := ⟨_, rfl⟩
  have hB : Below w.heap.size w W1 := by rw [hW1]; exact ((Below.refl _ w).alloc (Nat.le_refl _) _).alloc (by simp) _
  have hq : W1.heap[w.heap.size]? = some (.cells #[.string nm, .int .i64 st, .slice A1 b1.length c1, .slice A2 s1.length c2] 31 (0, 0)) := by
    rw [hW1, Below.heap_alloc _ _ _ (by simp)]; exact blk_new _ _ _
  have hr : W1.heap[w.heap.size + 1]? = some (.cells #[.string nm, .int .i64 st, .slice A3 b2.length c3, .slice A4 s2.length c4] 25 (0, 0)) := by
    have h1 := blk_new (w.alloc (Obj.cells #[.string nm, .int .i64 st, .slice A1 b1.length c1, .slice A2 s1.length c2] 31)) #[.string nm, .int .i64 st, .slice A3 b2.length c3, .slice A4 s2.length c4] 25
    simp only [World.size_alloc] at h1
    rw [hW1]; exact h1
  have F0 : ∀ p : Bw W1, p.out.cell? ⟨w.heap.size, 0, none⟩ = some (.string nm) := fun p => p.cell (blk_lt hq) (by simpa using blk_cell hq 0)
  have F1 : ∀ p : Bw W1, p.out.cell? ⟨w.heap.size, 1, none⟩ = some (.int .i64 st) := fun p => p.cell (blk_lt hq) (by simpa using blk_cell hq 1)
  have F2 : ∀ p : Bw W1, p.out.cell? ⟨w.heap.size, 2, none⟩ = some (.slice A1 b1.length c1) := fun p => p.cell (blk_lt hq) (by simpa using blk_cell hq 2)
  have F3 : ∀ p : Bw W1, p.out.cell? ⟨w.heap.size, 3, none⟩ = some (.slice A2 s1.length c2) := fun p => p.cell (blk_lt hq) (by simpa using blk_cell hq 3)
  have G0 : ∀ p : Bw W1, p.out.cell? ⟨w.heap.size + 1, 0, none⟩ = some (.string nm) := fun p => p.cell (blk_lt hr) (by simpa using blk_cell hr 0)
  have G1 : ∀ p : Bw W1, p.out.cell? ⟨w.heap.size + 1, 1, none⟩ = some (.int .i64 st) := fun p => p.cell (blk_lt hr) (by simpa using blk_cell hr 1)
  have G2 : ∀ p : Bw W1, p.out.cell? ⟨w.heap.size + 1, 2, none⟩ = some (.slice A3 b2.length c3) := fun p => p.cell (blk_lt hr) (by simpa using blk_cell hr 2)
  have G3 : ∀ p : Bw W1, p.out.cell? ⟨w.heap.size + 1, 3, none⟩ = some (.slice A4 s2.length c4) := fun p => p.cell (blk_lt hr) (by simpa using blk_cell hr 3)
  have HB := hd hB
  have HPB := hd (fun p : Bw W1 => hB.trans (p.below.mono hB.size))
  have HSR := hd (fun W hb => sameRec_yes nm st _ _ _ _ b1 b2 s1 s2 W ((H1.out.below hb (Nat.le_refl _)).mono hb.size) ((H2.out.below hb (Nat.le_refl _)).mono hb.size) ((H3.out.below hb (Nat.le_refl _)).mono hb.size) ((H4.out.below hb (Nat.le_refl _)).mono (Below.size hb)) HL.out HG.out)
  clear hL hG hB hq hr
  go_enter Tryz.func14, Tryz.ntmps14
  go_wp2_with fail
  rw [← hW1]
  clear hW1
  refine wp_region_bw (by kernel_rfl) (by kernel_rfl) ?_
  repeat (first | go_big_quiet_step (first | (go_at_call 18; exact Bw.call _ (own_rec _ _ _ _ _ _ _ _ _)) | (go_at_call 17; exact Bw.call _ (HSR.out _ (HPB.out _)))))
  refine wpQuiet_nil ?_
  rintro ⟨W2, hB2⟩
  change Exit.then _ _ _ _ W2
  have HB2 := hd (HB.out.trans (hB2.mono HB.out.size))
  clear hB2 F0 F1 F2 F3 G0 G1 G2 G3
  go_wp2_with fail
  go_returns
  exact ⟨rfl, HB2.out⟩
end Go.Proofs.YtnncmaegmlaabaaGreatDoor

namespace Go.Proofs.YtnncmaegmlaabaaGreatDoor
open Go.RowKit
attribute [local go_sem] Oper.semAt_some

section
variable {P : Program} (w : World)
/-- append onto a row of the call's own, at a step of a region that draws. -/
theorem step_append_own {y : Nat → Option Bool} {o : Oper} {a : Act} {K : Act → World → Prop} {Q : Exit → Act → World → Prop} {E : Prop} (hgd : o.guard = none) (s x : Operand) (t : TypeId)
    (ho : o.op = .call { callee := .builtin .append, args := #[s, x], argTypes := #[t, t] })
    (base : Nat) (e : TypeId) (i : TypeInfo) (z : Value) (size bytes : Nat) (ht : P.underlying t = some (.slice e)) (hi : P.info? e = some i) (hz : i.zero = some z)
    (hsize : i.size = size) (hby : i.bytes = bytes) (hzs : z.cells.size = size) (hsz : 0 < size)
    (v : Value) (n : Nat) (xs : List Value) (hs : a.eval s = v) (hown : w.ownsRow base e size v n xs)
    (ad : Addr) (m c : Nat) (news : List Value) (hx : a.eval x = .slice (some ad) m c) (hl : news.length = m * size) (hnews : ∀ j u, news[j]? = some u → w.cell? (ad.add j) = some u) (h1 : ∀ u ∈ news, u.oneCell' = true)
    (h63 : n + m ≤ maxLen) (hbytes : (n + m) * bytes ≤ 140737488355328) (hbase : base ≤ w.heap.size)
    (h : ∀ v' w', w'.ownsRow base e size v' (n + m) (xs ++ news) → w.grownBy w' v.ownBlock → (v' = .slice none 0 0 ↔ v = .slice none 0 0 ∧ m = 0) → K (a.put o.dst v') w') :
    if Region.wanted o y = true then Oper.wp P o a w K Q else E := by
  have hw : Region.wanted o y = true := by simp [Region.wanted, hgd]
  rw [if_pos hw]
  exact wp_append_own w s x t ho base e i z size bytes ht hi hz hsize hby hzs hsz v n xs hs hown ad m c news hx hl hnews h1 h63 hbytes hbase h
theorem step_append_opt {y : Nat → Option Bool} {o : Oper} {a : Act} {K : Act → World → Prop} {Q : Exit → Act → World → Prop} {E : Prop} (hgd : o.guard = none) (s x : Operand) (t : TypeId)
    (ho : o.op = .call { callee := .builtin .append, args := #[s, x], argTypes := #[t, t] })
    (base : Nat) (e : TypeId) (i : TypeInfo) (z : Value) (size bytes : Nat) (ht : P.underlying t = some (.slice e)) (hi : P.info? e = some i) (hz : i.zero = some z)
    (hsize : i.size = size) (hby : i.bytes = bytes) (hzs : z.cells.size = size) (hsz : 0 < size)
    (v : Value) (n : Nat) (xs : List Value) (hs : a.eval s = v) (hown : w.ownsRow base e size v n xs)
    (ao : Option Addr) (m c : Nat) (news : List Value) (hx : a.eval x = .slice ao m c) (hl : news.length = m * size) (hnone : ao = none → m = 0 ∧ c = 0) (hnews : ∀ ad, ao = some ad → ∀ j u, news[j]? = some u → w.cell? (ad.add j) = some u) (h1 : ∀ u ∈ news, u.oneCell' = true)
    (h63 : n + m ≤ maxLen) (hbytes : (n + m) * bytes ≤ 140737488355328) (hbase : base ≤ w.heap.size)
    (h : ∀ v' w', w'.ownsRow base e size v' (n + m) (xs ++ news) → w.grownBy w' v.ownBlock → K (a.put o.dst v') w') :
    if Region.wanted o y = true then Oper.wp P o a w K Q else E := by
  cases ao with
  | some ad => exact step_append_own w hgd s x t ho base e i z size bytes ht hi hz hsize hby hzs hsz v n xs hs hown ad m c news hx hl (hnews ad rfl) h1 h63 hbytes hbase (fun v' w' g1 g2 _ => h v' w' g1 g2)
  | none =>
    obtain ⟨rfl, rfl⟩ := hnone rfl
    have hnews' : news = [] := List.eq_nil_of_length_eq_zero (by simpa using hl)
    subst hnews'
    have hw : Region.wanted o y = true := by simp [Region.wanted, hgd]
    rw [if_pos hw]
    subst hsize
    have hr := run_append_owned_none (P := P) w base t o.type e i i.size ht hi v n xs hown
    unfold Oper.wp execOp
    simp only [ho, resolve, invoke, builtin, Sem.run_bind, Sem.run_pure, Result.andThen_ok, List.map_toArray, List.map_cons, List.map_nil, hs, hx, hr]
    exact h v w (by simpa using hown) (World.grownBy.refl _ _)
end
end Go.Proofs.YtnncmaegmlaabaaGreatDoor

