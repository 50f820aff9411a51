/-
  slices.Clone of spans; slices.Grow of nil; slices.Concat of two rows of levels.
  slices.Concat of two rows of levels; the spans of a record, moved behind another's.
  gauge.Append at records that it refuses.
-/
import Derived.Test.YtkgkpcmokmhakaaGreatDoorProg
import Derived.Test.YtkgkpcmokmhakaaGreatDoorA1
import Derived.Lib.AppendZeros

namespace Go.Proofs.YtkgkpcmokmhakaaGreatDoor
open Go.RowKit
attribute [local go_sem] Oper.semAt_some

section
variable {P : Program} (w : World)
/-- append onto a row of the call's own, of a row that may be nil. -/
theorem wpList_append_opt {ops : Array Oper} {rest : List Oper} {o : Oper} {a : Act} {Q : Exit → Act → World → Prop} (hgd : o.guard = none) (s x : Operand) (t : TypeId)
    (ho : o.op = .call { callee := .builtin .append, args := #[s, x], argTypes := #[t, t] })
    (base : Nat) (e : TypeId) (i : TypeInfo) (z : Value) (size bytes : Nat) (ht : P.underlying t = some (.slice e)) (hi : P.info? e = some i) (hz : i.zero = some z)
    (hsize : i.size = size) (hby : i.bytes = bytes) (hzs : z.cells.size = size) (hsz : 0 < size)
    (v : Value) (n : Nat) (xs : List Value) (hs : a.eval s = v) (hown : w.ownsRow base e size v n xs)
    (ao : Option Addr) (m c : Nat) (news : List Value) (hx : a.eval x = .slice ao m c) (hl : news.length = m * size) (hnone : ao = none → m = 0 ∧ c = 0) (hnews : ∀ ad, ao = some ad → ∀ j u, news[j]? = some u → w.cell? (ad.add j) = some u) (h1 : ∀ u ∈ news, u.oneCell' = true)
    (h63 : n + m ≤ maxLen) (hbytes : (n + m) * bytes ≤ 140737488355328) (hbase : base ≤ w.heap.size)
    (h : ∀ v' w', w'.ownsRow base e size v' (n + m) (xs ++ news) → w.grownBy w' v.ownBlock → wpList P ops Q rest (a.put o.dst v') w') : wpList P ops Q (o :: rest) a w := by
  cases ao with
  | some ad => exact wpList_append_own w hgd s x t ho base e i z size bytes ht hi hz hsize hby hzs hsz v n xs hs hown ad m c news hx hl (hnews ad rfl) h1 h63 hbytes hbase (fun v' w' g1 g2 _ => h v' w' g1 g2)
  | none =>
    obtain ⟨rfl, rfl⟩ := hnone rfl
    have hnews' : news = [] := List.eq_nil_of_length_eq_zero (by simpa using hl)
    subst hnews'
    subst hsize
    have hr := run_append_owned_none (P := P) w base t o.type e i i.size ht hi v n xs hown
    exact Lib.wpList_append_run w hgd s x t t ho _ _ hs hx v w hr (h v w (by simpa using hown) (World.grownBy.refl _ _))
end

def OwnSp2 (base : Nat) (l : List (Int × Int)) (w : World) (e : Ending) (w' : World) : Prop :=
  ∃ v, e = .returned v ∧ w'.ownsRow base 50 2 v l.length (spc l) ∧ Below base w w'

set_option maxRecDepth 1000000 in
set_option maxHeartbeats 2000000 in
theorem cloneSp_some (ad : Addr) (c : Nat) (gs : List (Int × Int)) (w : World) (hcell : ∀ j u, (spc gs)[j]? = some u → w.cell? (ad.add j) = some u) (hn : gs.length ≤ 100000) :
    Calls Tryz.prog 49 #[.slice (some ad) gs.length c] w (OwnSp2 w.heap.size gs w) := by
  obtain ⟨i0, hi, hz0, hz1, hz2⟩ := info_parts spanInfo
  have qT : ∀ (w : World) (a : Option Addr) (n c n' c' : Nat), (binOp .eql 23 (.slice a n c) (.slice none n' c')).run Tryz.prog w = .ok (.bool a.isNone) w := fun w a n c n' c' => Lib.run_eql_slice_nil w _ _ a n c n' c' Tryz.underlying23
  have h63 : 0 + gs.length ≤ maxLen := by unfold maxLen; omega
  have hby : (0 + gs.length) * 16 ≤ 140737488355328 := by omega
  have H63 := hd h63
  have HBY := hd hby
  have hn' : gs.length ≤ 4611686018427387904 := by omega
  have hcell2 : ∀ o j u, (spc gs)[j]? = some u → (w.alloc o).cell? (ad.add j) = some u := fun o j u hu => by
    have h1 := hcell j u hu
    rw [World.cell?_alloc_lt w o _ (World.block_lt_of_cell? _ _ h1)]
    exact h1
  have HC := hd hcell2
  clear h63 hby hn hcell hcell2
  go_enter Tryz.func49, Tryz.ntmps49
  go_wp2_with (at_builtin; refine wpList_append_own _ rfl (.tmp 5) (.tmp 6) 23 rfl w.heap.size 50 i0 (.agg #[.int .i64 0, .int .i64 0]) 2 16 Tryz.underlying23 hi hz0 hz1 hz2 rfl (by decide) (.slice (some ⟨w.heap.size, 0, none⟩) 0 0) 0 [] rfl ?c0 ad gs.length c (spc gs) rfl ?c00 ?c1 ?c2 ?c3 ?c4 ?c5 ?_)
  case c0 => exact World.ownsRow_lit w #[] 0 (Nat.le_refl _) (by decide) rfl
  case c00 => rw [spc_len]; omega
  case c1 => exact HC.out _
  case c2 => exact one_spc gs
  case c3 => exact H63.out
  case c4 => exact HBY.out
  case c5 => simp
  · intro v' w' hown' hgrow hne
    have HO := hd hown'
    have HG := hd hgrow
    clear hown' hgrow hne
    go_wp2
    go_ret
    exact ⟨v', rfl, by simpa using HO.out, ((Below.refl _ w).alloc (Nat.le_refl _) _).grown HG.out (by simp) (fun k hk => by simp [Value.ownBlock] at hk; omega)⟩

set_option maxRecDepth 1000000 in
set_option maxHeartbeats 2000000 in
theorem cloneSp_any (sl : Value) (gs : List (Int × Int)) (w : World) (h : Rd w w.heap.size sl gs.length (spc gs)) (hn : gs.length ≤ 100000) :
    Calls Tryz.prog 49 #[sl] w (OwnSp2 w.heap.size gs w) := by
  obtain ⟨A, c, rfl, hc1, hc2, hc⟩ := h
  rcases Nat.eq_zero_or_pos gs.length with h0 | h0
  · obtain rfl : gs = [] := List.eq_nil_of_length_eq_zero h0
    cases A with
    | some ad => exact cloneSp_some ad c [] w (fun j u hu => by simp [spc] at hu) hn
    | none =>
      have qT : ∀ (w : World) (a : Option Addr) (n c n' c' : Nat), (binOp .eql 23 (.slice a n c) (.slice none n' c')).run Tryz.prog w = .ok (.bool a.isNone) w := fun w a n c n' c' => Lib.run_eql_slice_nil w _ _ a n c n' c' Tryz.underlying23
      clear hc hn
      go_enter Tryz.func49, Tryz.ntmps49
      go_wp2
      go_ret
      exact ⟨_, rfl, World.ownsRow_nil _ _ _ _, Below.refl _ _⟩
  · obtain ⟨b, off, rfl, -, hcell⟩ := hc h0
    refine cloneSp_some _ c gs w (fun j u hu => ?_) hn
    have hj : j < (spc gs).length := (List.getElem?_eq_some_iff.1 hu).1
    have e : (⟨b, off, none⟩ : Addr).add j = ⟨b, off + j, none⟩ := by unfold Addr.add; split <;> simp_all
    rw [e, hcell j hj, hu]

set_option maxRecDepth 1000000 in
set_option maxHeartbeats 4000000 in
theorem growNil_any (n : Nat) (w : World) (hn : n ≤ 100000) :
    Calls Tryz.prog 82 #[.slice none 0 0, .int .i64 n] w fun e w' => ∃ v, e = .returned v ∧ w'.ownsRow w.heap.size 60 1 v 0 [] ∧ Below w.heap.size w w' := by
  obtain ⟨i0, hi, hz0, hz1, hz2⟩ := info_parts floatInfo
  rcases Nat.eq_zero_or_pos n with h0 | h0
  · subst h0
    go_enter Tryz.func82, Tryz.ntmps82
    go_wp2
    go_ret
    exact ⟨_, rfl, World.ownsRow_nil _ _ _ _, Below.refl _ _⟩
  · have hr := fun ty => Lib.run_append_nil_zeros w 22 3 ty 60 i0 (.float .f32 0) .i64 .i64 Tryz.underlying22 Tryz.underlying3 hi hz0 n h0 (by rw [hz1]; decide) (by omega) (by rw [hz2]; omega)
    have hG := grownCap_ge w n 0 60
    have hG2 := grownCap_le_maxLen w n 0 60 (by unfold maxLen; omega)
    generalize grownCap w n 0 60 = G at *
    have hG63 : G ≤ 9223372036854775807 := hG2
    have hcs : (Builtin.zeroCells (Value.float .f32 0).cells n ++ Builtin.zeroCells (Value.float .f32 0).cells (G - n)).size = G * 1 := by
      rw [Array.size_append, size_zeroCells, size_zeroCells]
      show n * 1 + (G - n) * 1 = G * 1
      omega
    generalize (Builtin.zeroCells (Value.float .f32 0).cells n ++ Builtin.zeroCells (Value.float .f32 0).cells (G - n)) = CS at *
    have h1 : ¬ ((n : Int) < 0) := by omega
    have h4 : (n : Int) > 0 := by omega
    have HR := hd (show (w.drew.alloc (.cells CS 60)).ownsRow w.heap.size 60 1 (.slice (some ⟨w.heap.size, 0, none⟩) 0 G) 0 [] from ⟨rfl, .inr ⟨w.heap.size, G, CS, rfl, Nat.le_refl _, heap_alloc_new w.drew _, Nat.zero_le _, hG2, hcs, by simp⟩⟩)
    have HR2 := hd hr
    clear hr hi hz0 hz1 hz2 hcs hG2
    go_enter Tryz.func82, Tryz.ntmps82
    go_wp2_with (at_builtin; refine Lib.wpList_append_run _ rfl _ _ _ _ rfl _ _ rfl rfl _ _ (HR2.out _) ?_)
    go_ret
    exact ⟨_, rfl, HR.out, (Below.refl _ w).drew.alloc (Nat.le_refl _) _⟩
end Go.Proofs.YtkgkpcmokmhakaaGreatDoor

namespace Go.Proofs.YtkgkpcmokmhakaaGreatDoor
open Go.RowKit
attribute [local go_sem] Oper.semAt_some

set_option maxRecDepth 1000000 in
set_option maxHeartbeats 4000000 in
theorem concat2_any (R : Nat) (T : TypeId) (A B : Option Addr) (c d : Nat) (bs cs : List Nat) (w : World) (HR : Hid (w.heap[R]? = some (.cells #[.slice A bs.length c, .slice B cs.length d] T (0, 0))))
    (HL : Hid (Rd w w.heap.size (.slice A bs.length c) bs.length (flc bs))) (HL2 : Hid (Rd w w.heap.size (.slice B cs.length d) cs.length (flc cs))) (HNA : Hid (A = none → bs.length = 0 ∧ c = 0)) (HNB : Hid (B = none → cs.length = 0 ∧ d = 0)) (hn : bs.length ≤ 4096) (hm : cs.length ≤ 4096) :
    Calls Tryz.prog 48 #[.slice (some ⟨R, 0, none⟩) 2 2] w fun e w' => ∃ v, e = .returned v ∧ w'.ownsRow w.heap.size 60 1 v (bs.length + cs.length) (flc bs ++ flc cs) ∧ Below w.heap.size w w' := by
  obtain ⟨f0, hf, hx0, hx1, hx2⟩ := info_parts floatInfo
  have HF := hd (And.intro hf (And.intro hx0 (And.intro hx1 hx2)))
  clear hf hx0 hx1 hx2
  have hbs63 : (bs.length : Int) ≤ 4096 := by omega
  have hcs63 : (cs.length : Int) ≤ 4096 := by omega
  have hsum : ((bs.length : Int) + (cs.length : Int)) ≤ 9000 := by omega
  have HX1 := hd (fun (X : World) (hb : Below w.heap.size w X) ad (ha : A = some ad) j u (hu : (flc bs)[j]? = some u) => show X.cell? (ad.add j) = some u from rd_at ((HL.out.below hb (Nat.le_refl _)).mono hb.size) (flc_len bs) ad ha j u hu)
  have HX2 := hd (fun (X : World) (hb : Below w.heap.size w X) ad (ha : B = some ad) j u (hu : (flc cs)[j]? = some u) => show X.cell? (ad.add j) = some u from rd_at ((HL2.out.below hb (Nat.le_refl _)).mono hb.size) (flc_len cs) ad ha j u hu)
  have H63 := hd (show 0 + bs.length ≤ maxLen ∧ (0 + bs.length) * 4 ≤ 140737488355328 ∧ bs.length + cs.length ≤ maxLen ∧ (bs.length + cs.length) * 4 ≤ 140737488355328 from by unfold maxLen; omega)
  have HGW := hd (growNil_any (bs.length + cs.length) w (by omega))
  have r0 := blk_cell HR.out 0
  have r1 := blk_cell HR.out 1
  simp at r0 r1
  have HC0 := hd r0
  have HC1 := hd r1
  clear r0 r1 hn hm
  go_enter Tryz.func48, Tryz.ntmps48
  go_wp2
  go_loopw [3, 11] (fun s i wr => ∃ k n : Int, i = .int .i64 k ∧ s = .int .i64 n ∧ ((k = 0 ∧ n = 0) ∨ (k = 1 ∧ n = bs.length) ∨ (k = 2 ∧ n = bs.length + cs.length)) ∧ w = wr) (fun _ i _ => 2 - (intOf i).toNat)
  case atStart => exact ⟨0, 0, rfl, rfl, .inl ⟨rfl, rfl⟩, rfl⟩
  case round =>
    obtain ⟨k, n, rfl, rfl, hc, rfl⟩ := hrel
    have r0 := HC0.out
    have r1 := HC1.out
    rcases hc with ⟨rfl, rfl⟩ | ⟨rfl, rfl⟩ | ⟨rfl, rfl⟩
    · go_wp2
      go_roundw
      case rel => exact ⟨1, bs.length, by go_num, by go_num, .inr (.inl ⟨rfl, rfl⟩), (by first | rfl | trivial)⟩
      case measure => simp [intOf]
    · go_wp2
      go_roundw
      case rel => exact ⟨2, bs.length + cs.length, by go_num, by go_num, .inr (.inr ⟨rfl, rfl⟩), (by first | rfl | trivial)⟩
      case measure => simp [intOf]
    · clear r0 r1
      go_wp2_with fail
      rw [show ((bs.length : Int) + (cs.length : Int)) = ((bs.length + cs.length : Nat) : Int) by omega]
      refine HGW.out.mono ?_
      rintro e w1 ⟨v1, rfl, hv1, hb1⟩
      obtain ⟨A1, c1, e1, -⟩ := own_form hv1
      subst e1
      have HV1 := hd hv1
      have HB1 := hd hb1
      clear hv1 hb1
      go_wp2
      go_loopw [6, 27] (fun v i wr => ∃ (k : Int) (n : Nat) (xs : List Value), i = .int .i64 k ∧ ((k = 0 ∧ n = 0 ∧ xs = []) ∨ (k = 1 ∧ n = bs.length ∧ xs = flc bs) ∨ (k = 2 ∧ n = bs.length + cs.length ∧ xs = flc bs ++ flc cs)) ∧ Hid (wr.ownsRow w.heap.size 60 1 v n xs ∧ Below w.heap.size w wr)) (fun _ i _ => 2 - (intOf i).toNat)
      case atStart => exact ⟨0, 0, [], rfl, .inl ⟨rfl, rfl, rfl⟩, hd ⟨HV1.out, HB1.out⟩⟩
      case round =>
        obtain ⟨k, n, xs, rfl, hc, HI⟩ := hrel
        clear HV1 HB1
        have hq := (HI.out.2.block _ (blk_lt HR.out)).trans HR.out
        have q0 := blk_cell hq 0
        have q1 := blk_cell hq 1
        simp at q0 q1
        clear hq
        obtain ⟨A6, c6, hv6, -⟩ := own_form HI.out.1
        subst hv6
        rcases hc with ⟨rfl, rfl, rfl⟩ | ⟨rfl, rfl, rfl⟩ | ⟨rfl, rfl, rfl⟩
        · go_wp2_with (at_builtin; refine wpList_append_opt _ rfl (.tmp 31) (.tmp 32) 22 rfl w.heap.size 60 f0 (.float .f32 0) 1 4 Tryz.underlying22 HF.out.1 HF.out.2.1 HF.out.2.2.1 HF.out.2.2.2 rfl (by decide) _ 0 _ rfl HI.out.1 A bs.length c (flc bs) rfl (by simp [flc]) HNA.out (HX1.out _ HI.out.2) (one_flc bs) H63.out.1 H63.out.2.1 HI.out.2.size ?_)
          intro v7 w7 hown7 hg7
          have HI7 := hd (And.intro hown7 (HI.out.2.grown hg7 HI.out.2.size (fun kk hk => (HI.out.1.lt kk hk).1)))
          clear hown7 hg7
          go_wp2
          go_roundw
          case rel => exact ⟨1, bs.length, flc bs, by go_num, .inr (.inl ⟨rfl, rfl, rfl⟩), hd (by simpa using HI7.out)⟩
          case measure => simp [intOf]
        · go_wp2_with (at_builtin; refine wpList_append_opt _ rfl (.tmp 31) (.tmp 32) 22 rfl w.heap.size 60 f0 (.float .f32 0) 1 4 Tryz.underlying22 HF.out.1 HF.out.2.1 HF.out.2.2.1 HF.out.2.2.2 rfl (by decide) _ bs.length _ rfl HI.out.1 B cs.length d (flc cs) rfl (by simp [flc]) HNB.out (HX2.out _ HI.out.2) (one_flc cs) H63.out.2.2.1 H63.out.2.2.2 HI.out.2.size ?_)
          intro v7 w7 hown7 hg7
          have HI7 := hd (And.intro hown7 (HI.out.2.grown hg7 HI.out.2.size (fun kk hk => (HI.out.1.lt kk hk).1)))
          clear hown7 hg7
          go_wp2
          go_roundw
          case rel => exact ⟨2, bs.length + cs.length, flc bs ++ flc cs, by go_num, .inr (.inr ⟨rfl, rfl, rfl⟩), HI7⟩
          case measure => simp [intOf]
        · go_wp2
          go_ret
          exact ⟨_, rfl, HI.out.1, HI.out.2⟩

set_option maxRecDepth 100000 in
set_option maxHeartbeats 2000000 in
/-- The closure of Append: the first record lies in block B. -/
theorem moveClo_any (f t : Int) (B : Nat) (A : Option Addr) (n c : Nat) (w : World) (h2 : w.cell? ⟨B, 2, none⟩ = some (.slice A n c)) (hf : 0 ≤ f ∧ f ≤ 10000) (ht : 0 ≤ t ∧ t ≤ 10000) (hn : n ≤ 10000) :
    Calls Tryz.prog 51 #[.agg #[.int .i64 f, .int .i64 t], .pointer (some ⟨B, 0, none⟩)] w fun e w' => e = .returned (.agg #[.int .i64 (f + n), .int .i64 (t + n)]) ∧ Below w.heap.size w w' := by
  have hBlt : B < w.heap.size := World.block_lt_of_cell? _ _ h2
  have hB1 : B ≠ w.heap.size := by omega
  have hB2 : B ≠ w.heap.size + 1 := by omega
  have hfn : f + (n : Int) ≤ 20000 := by omega
  have htn : t + (n : Int) ≤ 20000 := by omega
  have hfn0 : 0 ≤ f + (n : Int) := by omega
  have htn0 : 0 ≤ t + (n : Int) := by omega
  have hn63 : (n : Int) ≤ 10000 := by omega
  obtain ⟨hf1, hf2⟩ := hf
  obtain ⟨ht1, ht2⟩ := ht
  go_enter Tryz.func51, Tryz.ntmps51
  go_wp2
  exact bodyPost_ret (v := .agg #[.int .i64 (f + n), .int .i64 (t + n)]) (by simp [results, Tryz.results51, go_sem]) rfl ⟨rfl, ((Below.refl _ w).alloc (Nat.le_refl _) _).alloc (by simp) _⟩

/-- The spans moved on. -/
def movS (n : Nat) (l : List (Int × Int)) : List (Int × Int) := l.map (fun s => (s.1 + n, s.2 + n))
theorem movS_len (n : Nat) (l : List (Int × Int)) : (movS n l).length = l.length := by simp [movS]
theorem movS_take (n : Nat) (l : List (Int × Int)) (k : Nat) (hk : k < l.length) : spc (movS n (l.take (k + 1))) = spc (movS n (l.take k)) ++ [.int .i64 ((l.getD k (0, 0)).1 + n), .int .i64 ((l.getD k (0, 0)).2 + n)] := by
  rw [List.take_succ_eq_append_getElem hk]
  unfold movS
  rw [List.map_append, spc_append]
  congr 1
  simp [spc, List.getD, hk]

set_option maxRecDepth 1000000 in
set_option maxHeartbeats 2000000 in
theorem moveAll_any (sl : Value) (l : List (Int × Int)) (B : Nat) (A : Option Addr) (n c : Nat) (w : World) (h : Rd w w.heap.size sl l.length (spc l)) (h2 : w.cell? ⟨B, 2, none⟩ = some (.slice A n c)) (hn : n ≤ 10000) (hm : l.length ≤ 10000)
    (hok : ∀ j, j < l.length → 0 ≤ (l.getD j (0, 0)).1 ∧ (l.getD j (0, 0)).1 ≤ 10000 ∧ 0 ≤ (l.getD j (0, 0)).2 ∧ (l.getD j (0, 0)).2 ≤ 10000) :
    Calls Tryz.prog 50 #[sl, .func (.func 51) #[] #[.pointer (some ⟨B, 0, none⟩)]] w (OwnSp2 w.heap.size (movS n l) w) := by
  obtain ⟨i0, hi, hz0, hz1, hz2⟩ := info_parts spanInfo
  have HJ := hd (And.intro hi (And.intro hz0 (And.intro hz1 hz2)))
  have HBY := hd (show i0.bytes * l.length ≤ 281474976710656 by rw [hz2]; omega)
  have HMX := hd (show l.length ≤ maxLen by unfold maxLen; omega)
  clear hi hz0 hz1 hz2
  obtain ⟨A1, c1, rfl, hc1, hc2, hc⟩ := h
  have hBlt : B < w.heap.size := World.block_lt_of_cell? _ _ h2
  unfold maxLen at hc2
  have HC := hd hc
  have HOK := hd hok
  have H2 := hd h2
  have hl63 : (l.length : Int) ≤ 10000 := by omega
  clear hc hok h2 hm
  go_enter Tryz.func50, Tryz.ntmps50
  go_wp2_with (at_make; refine wpList_make_own _ rfl _ _ 23 rfl w.heap.size 50 i0 (.agg #[.int .i64 0, .int .i64 0]) 2 Tryz.underlying23 HJ.out.1 HJ.out.2.1 HJ.out.2.2.1 .i64 .i64 (l.length : Int) l.length rfl rfl rfl HBY.out HMX.out (Nat.le_refl _) ?_)
  intro w1 hown1 hg1
  have HI0 := hd (And.intro hown1 ((Below.refl w.heap.size w).grown hg1 (Nat.le_refl _) (fun kk hk => by simp at hk)))
  clear hown1 hg1
  go_wp2
  go_loopw [5, 13] (fun v i wr => ∃ k : Nat, k ≤ l.length ∧ i = .int .i64 k ∧ Hid (wr.ownsRow w.heap.size 50 2 v k (spc (movS n (l.take k))) ∧ Below w.heap.size w wr)) (fun _ i _ => l.length - (intOf i).toNat)
  case atStart => exact ⟨0, Nat.zero_le _, rfl, hd (by simpa [movS, spc] using HI0.out)⟩
  case round =>
    obtain ⟨k, hk, rfl, HI⟩ := hrel
    clear HI0
    obtain ⟨A6, c6, hv6, -⟩ := own_form HI.out.1
    subst hv6
    by_cases hlt : k < l.length
    · obtain ⟨b, off, rfl, hbb, hcell⟩ := HC.out (by omega)
      obtain ⟨q1, q2⟩ := spc_getD l k hlt
      have hb := HI.out.2
      have hs0 : wr.cell? ⟨b, off + k * 2, none⟩ = some (.int .i64 (l.getD k (0, 0)).1) := (hb.cell (p := ⟨b, _, none⟩) hbb).trans ((hcell (k * 2) (by rw [spc_len]; omega)).trans q1)
      have hs1 : wr.cell? ⟨b, off + k * 2 + 1, none⟩ = some (.int .i64 (l.getD k (0, 0)).2) := (hb.cell (p := ⟨b, _, none⟩) hbb).trans ((hcell (k * 2 + 1) (by rw [spc_len]; omega)).trans q2)
      have HL := hd (HOK.out k hlt)
      have HT := hd (movS_take n l k hlt)
      have HPL := hd (show k + 1 ≤ maxLen ∧ (k + 1) * 16 ≤ 140737488355328 by unfold maxLen; omega)
      have K2 := hd (fun o => cell_alloc_old (o := o) ((hb.cell (p := ⟨B, 2, none⟩) hBlt).trans H2.out))
      clear hcell q1 q2 hb
      generalize (l.getD k (0, 0)).1 = f at *
      generalize (l.getD k (0, 0)).2 = t at *
      go_wp2_with fail
      refine (moveClo_any f t B A n c _ (K2.out _) ⟨HL.out.1, HL.out.2.1⟩ HL.out.2.2 hn).mono ?_
      rintro e w2 ⟨rfl, hb2⟩
      have hb3 := ((Below.refl wr.heap.size wr).alloc (Nat.le_refl _) _).trans (hb2.mono (by simp))
      have HI2 := hd (And.intro (own_bel HI.out.1 hb3) (HI.out.2.trans (hb3.mono HI.out.2.size)))
      clear HI hb2 hb3 K2 hs0 hs1
      go_wp2_with (at_builtin; refine wpList_append_own _ rfl (.tmp 17) (.tmp 21) 23 rfl w.heap.size 50 i0 (.agg #[.int .i64 0, .int .i64 0]) 2 16 Tryz.underlying23 HJ.out.1 HJ.out.2.1 HJ.out.2.2.1 HJ.out.2.2.2 rfl (by decide) _ k _ rfl (HI2.out.1.alloc _) ⟨w2.heap.size, 0, none⟩ 1 1 [.int .i64 (f + n), .int .i64 (t + n)] rfl rfl (new_two w2 _ _ _) (by simp [Value.oneCell']) HPL.out.1 HPL.out.2 (by have := HI2.out.2.size; simp; omega) ?_)
      intro v7 w7 hown7 hg7 _
      have HI7 := hd (And.intro hown7 ((HI2.out.2.alloc HI2.out.2.size _).grown hg7 (by have := HI2.out.2.size; simp; omega) (fun kk hk => (HI2.out.1.lt kk hk).1)))
      clear hown7 hg7 HI2
      go_wp2
      go_roundw
      case rel => exact ⟨k + 1, by omega, by go_num, hd (by rw [HT.out]; exact HI7.out)⟩
      case measure => simp [intOf]; omega
    · have hke : k = l.length := by omega
      subst hke
      rw [List.take_length] at HI
      go_wp2
      go_ret
      exact ⟨_, rfl, by rw [movS_len]; exact HI.out.1, HI.out.2⟩
end Go.Proofs.YtkgkpcmokmhakaaGreatDoor

namespace Go.Proofs.YtkgkpcmokmhakaaGreatDoor
open Go.RowKit
attribute [local go_sem] Oper.semAt_some

end Go.Proofs.YtkgkpcmokmhakaaGreatDoor
