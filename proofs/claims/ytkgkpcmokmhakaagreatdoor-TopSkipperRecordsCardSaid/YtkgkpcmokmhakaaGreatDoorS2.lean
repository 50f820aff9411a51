/-
  Plain words of streams: bytes and words at places of a stream. No condition but those written.
  Contracts of the words of a stream: gauge.wordAt, ref.Number4, ref.Four. Conditions: the bytes are there.
  Contract of gauge.decodeBody: the gaps and the levels of their parts of a stream. Conditions: the bytes are there.
-/
import Derived.Lib.SlBytesRow
import Derived.Lib.EndianBits
import Derived.Lib.AppendStr
import Derived.WalkKit
import Derived.Test.YtkgkpcmokmhakaaGreatDoorProg
import Derived.Test.YtkgkpcmokmhakaaGreatDoorMA
import Derived.Test.YtkgkpcmokmhakaaGreatDoorMF
import Derived.Test.YtkgkpcmokmhakaaGreatDoorT7
import Derived.Maps.AppendAt
import Derived.Deep.RegionHeld3
import Derived.Deep.RegionLaw
import Derived.BigQuiet
import Derived.IntWalk

namespace Go.Proofs.YtkgkpcmokmhakaaGreatDoor
open Go Go.RowKit
/-- The byte at a place of a stream (0 behind its end). -/
def bAt (s : ByteArray) (i : Nat) : Nat := (s.data.toList.getD i 0).toNat
theorem bAt_lt (s : ByteArray) (i : Nat) : bAt s i < 256 := (s.data.toList.getD i 0).toNat_lt
/-- The word at a place of a stream. -/
def w4 (s : ByteArray) (o : Nat) : Nat := bAt s o * 16777216 + bAt s (o + 1) * 65536 + bAt s (o + 2) * 256 + bAt s (o + 3)
theorem w4_lt (s : ByteArray) (o : Nat) : w4 s o < 4294967296 := by
  have h0 := bAt_lt s o; have h1 := bAt_lt s (o + 1); have h2 := bAt_lt s (o + 2); have h3 := bAt_lt s (o + 3)
  unfold w4; omega
theorem strCells_at (s : ByteArray) (i : Nat) (h : i < s.size) : (Lib.strCells s)[i]? = some (.int .u8 (bAt s i : Int)) := by
  have h' : i < s.data.toList.length := by simpa using h
  unfold Lib.strCells bAt
  simp [List.getElem?_map, List.getElem?_eq_getElem h', List.getD]
theorem or_24 (x y : Int) (h1 : 0 ≤ y) (h2 : y < 16777216) (h4 : 0 ≤ x) (h5 : x % 16777216 = 0) (h6 : x < 4294967296) : bits .or .u32 x y = x + y :=
  bits_join .u32 32 (by decide) wraps_u32 24 x y h4 h5 h6 h1 h2 (by omega)
theorem or_16 (x y : Int) (h1 : 0 ≤ y) (h2 : y < 65536) (h4 : 0 ≤ x) (h5 : x % 65536 = 0) (h6 : x < 4294967296) : bits .or .u32 x y = x + y :=
  bits_join .u32 32 (by decide) wraps_u32 16 x y h4 h5 h6 h1 h2 (by omega)
theorem or_8 (x y : Int) (h1 : 0 ≤ y) (h2 : y < 256) (h4 : 0 ≤ x) (h5 : x % 256 = 0) (h6 : x < 4294967296) : bits .or .u32 x y = x + y :=
  bits_join .u32 32 (by decide) wraps_u32 8 x y h4 h5 h6 h1 h2 (by omega)
theorem or_w4 (a b c d : Nat) (ha : a < 256) (hb : b < 256) (hc : c < 256) (hd : d < 256) : bits .or .u32 (bits .or .u32 (bits .or .u32 ((a : Int) * 16777216) ((b : Int) * 65536)) ((c : Int) * 256)) (d : Int) = ((a * 16777216 + b * 65536 + c * 256 + d : Nat) : Int) := by
  rw [or_24 ((a : Int) * 16777216) ((b : Int) * 65536) (by omega) (by omega) (by omega) (by omega) (by omega)]
  rw [or_16 _ ((c : Int) * 256) (by omega) (by omega) (by omega) (by omega) (by omega)]
  rw [or_8 _ (d : Int) (by omega) (by omega) (by omega) (by omega) (by omega)]
  omega
end Go.Proofs.YtkgkpcmokmhakaaGreatDoor

namespace Go.Proofs.YtkgkpcmokmhakaaGreatDoor
open Go.RowKit
attribute [local go_sem] Oper.semAt_some

/-- The cells of bytes of a stream from a place on. -/
def bys (s : ByteArray) (p n : Nat) : List Value := (List.range n).map fun j => Value.int .u8 (bAt s (p + j) : Int)
theorem bys_len (s : ByteArray) (p n : Nat) : (bys s p n).length = n := by simp [bys]
theorem bys_at (s : ByteArray) (p n j : Nat) (h : j < n) : (bys s p n)[j]? = some (.int .u8 (bAt s (p + j) : Int)) := by simp [bys, h]
set_option maxRecDepth 1000000 in
set_option maxHeartbeats 4000000 in
theorem word_any (s : ByteArray) (b o n c i p : Nat) (w : World) (h0 : w.cell? ⟨b, o + 4 * i, none⟩ = some (.int .u8 (bAt s p : Int))) (h1 : w.cell? ⟨b, o + 4 * i + 1, none⟩ = some (.int .u8 (bAt s (p + 1) : Int))) (h2 : w.cell? ⟨b, o + 4 * i + 2, none⟩ = some (.int .u8 (bAt s (p + 2) : Int))) (h3 : w.cell? ⟨b, o + 4 * i + 3, none⟩ = some (.int .u8 (bAt s (p + 3) : Int)))
    (hn : 4 * i + 4 ≤ n) (hnc : n ≤ c) (hcm : c ≤ maxLen) :
    Calls Tryz.prog 45 #[.slice (some ⟨b, o, none⟩) n c, .int .i64 (i : Int)] w fun e w' => e = .returned (.int .u32 (w4 s p : Int)) ∧ ∃ q, w' = w.drewN q := by
  have b0 := bAt_lt s p
  have b1 := bAt_lt s (p + 1)
  have b2 := bAt_lt s (p + 2)
  have b3 := bAt_lt s (p + 3)
  have hor := or_w4 (bAt s p) (bAt s (p + 1)) (bAt s (p + 2)) (bAt s (p + 3)) b0 b1 b2 b3
  unfold maxLen at hcm
  go_enter Tryz.func45, Tryz.ntmps45
  go_wp2
  have h4 : 4 * (i + 1) - 4 * i = 4 := by omega
  rw [h4]
  go_quiet (fail)
  go_wp2
  go_returns
  refine ⟨?_, nq, rfl⟩
  have hw : ((w4 s p : Nat) : Int) = (bAt s p : Int) * 16777216 + (bAt s (p + 1) : Int) * 65536 + (bAt s (p + 2) : Int) * 256 + (bAt s (p + 3) : Int) := by unfold w4; omega
  rw [hw]
  rfl

end Go.Proofs.YtkgkpcmokmhakaaGreatDoor

namespace Go.Proofs.YtkgkpcmokmhakaaGreatDoor
open Go.RowKit
attribute [local go_sem] Oper.semAt_some

section
variable {P : Program} (w : World)
/-- append onto a row of the call's own, at a step of a region that draws. -/
theorem step_append_ownS {y : Nat → Option Bool} {o : Oper} {a : Act} {K : Act → World → Prop} {Q : Exit → Act → World → Prop} {E : Prop} (hgd : o.guard = none) (s x : Operand) (t : TypeId)
    (ho : o.op = .call { callee := .builtin .append, args := #[s, x], argTypes := #[t, t] })
    (base : Nat) (e : TypeId) (i : TypeInfo) (z : Value) (size bytes : Nat) (ht : P.underlying t = some (.slice e)) (hi : P.info? e = some i) (hz : i.zero = some z)
    (hsize : i.size = size) (hby : i.bytes = bytes) (hzs : z.cells.size = size) (hsz : 0 < size)
    (v : Value) (n : Nat) (xs : List Value) (hs : a.eval s = v) (hown : w.ownsRow base e size v n xs)
    (ad : Addr) (m c : Nat) (news : List Value) (hx : a.eval x = .slice (some ad) m c) (hl : news.length = m * size) (hnews : ∀ j u, news[j]? = some u → w.cell? (ad.add j) = some u) (h1 : ∀ u ∈ news, u.oneCell' = true)
    (h63 : n + m ≤ maxLen) (hbytes : (n + m) * bytes ≤ 140737488355328) (hbase : base ≤ w.heap.size)
    (h : ∀ v' w', w'.ownsRow base e size v' (n + m) (xs ++ news) → w.grownBy w' v.ownBlock → (v' = .slice none 0 0 ↔ v = .slice none 0 0 ∧ m = 0) → K (a.put o.dst v') w') :
    if Region.wanted o y = true then Oper.wp P o a w K Q else E := by
  have hw : Region.wanted o y = true := by simp [Region.wanted, hgd]
  rw [if_pos hw]
  exact wp_append_own w s x t ho base e i z size bytes ht hi hz hsize hby hzs hsz v n xs hs hown ad m c news hx hl hnews h1 h63 hbytes hbase h
end

theorem cell_one_newS (w : World) (a : Value) (T : TypeId) : ∀ j u, [a][j]? = some u → (w.alloc (.cells #[a] T)).cell? ((⟨w.heap.size, 0, none⟩ : Addr).add j) = some u := by
  intro j u hj
  match j, hj with
  | 0, hj => exact (blk_cell (blk_new w #[a] T) 0).trans hj
/-- Gaps and levels in a part of a stream. -/
def dG (s : ByteArray) (p n : Nat) : List (Int × Int) := (List.range n).map fun i : Nat => ((w4 s (p + 8 * i) : Int), (w4 s (p + 8 * i + 4) : Int))
def dB (s : ByteArray) (q n : Nat) : List Nat := (List.range n).map fun i : Nat => w4 s (q + 4 * i)
theorem dG_len (s : ByteArray) (p n : Nat) : (dG s p n).length = n := by simp [dG]
theorem dB_len (s : ByteArray) (p n : Nat) : (dB s p n).length = n := by simp [dB]
theorem dG_succ (s : ByteArray) (p n : Nat) : dG s p (n + 1) = dG s p n ++ [((w4 s (p + 8 * n) : Int), (w4 s (p + 8 * n + 4) : Int))] := by simp [dG, List.range_succ]
theorem dB_succ (s : ByteArray) (p n : Nat) : dB s p (n + 1) = dB s p n ++ [w4 s (p + 4 * n)] := by simp [dB, List.range_succ]
theorem f32from_runS (x : Int) (w : World) : (callFunc 81 #[.int .u32 x]).run Tryz.prog w = .ok (.value (.float .f32 x.toNat)) w := by kernel_rfl
/-- What the body of a stream says. -/
def bodE (nm : ByteArray) (st : Int) (s : ByteArray) (p q g m : Nat) : Int := if 2147483648 ∈ dB s q m then 1 else chkRec nm st (dB s q m) (dG s p g)

theorem own_belS {w w' : World} {B : Nat} {e : TypeId} {size : Nat} {v : Value} {n : Nat} {xs : List Value} (h : w.ownsRow B e size v n xs) (hb : Below w.heap.size w w') : w'.ownsRow B e size v n xs :=
  h.kept (below_gb hb none) (by cases v.ownBlock <;> simp)
theorem own_farS {W : World} {B e s k X i : Nat} {v u : Value} {xs : List Value} (h : W.ownsRow B e s v k xs) (hX : v.ownBlock = none ∨ v.ownBlock ≠ some X) : (W.setCell ⟨X, i, none⟩ u).ownsRow B e s v k xs := h.kept (gb_set W X i u) hX
theorem own_typesS {W : World} {B B' s s' m m' : Nat} {e e' : TypeId} {v v' : Value} {xs xs' : List Value} (h : W.ownsRow B e s v m xs) (h' : W.ownsRow B' e' s' v' m' xs') (hne : e ≠ e') : v.ownBlock = none ∨ v.ownBlock ≠ v'.ownBlock := by
  rcases h.2 with ⟨rfl, _⟩ | ⟨g, cap, cur, rfl, _, hg, _⟩
  · exact .inl rfl
  · refine .inr fun e1 => ?_
    rcases h'.2 with ⟨rfl, _⟩ | ⟨g', cap', cur', rfl, _, hg', _⟩
    · cases e1
    · have e2 : g = g' := Option.some.inj e1
      subst e2
      rw [hg] at hg'
      cases hg'
      exact hne rfl
theorem own_boxS {W : World} {B s m g : Nat} {e t : TypeId} {cs : Array Value} {v : Value} {xs : List Value} (h : W.ownsRow B e s v m xs) (hg : W.heap[g]? = some (.cells cs t (0, 0))) (hne : t ≠ e) : v.ownBlock = none ∨ v.ownBlock ≠ some g :=
  .inr (fun e1 => blk_not_row hg hne h e1.symm)
theorem spc_snocS (l : List (Int × Int)) (f t : Int) : spc l ++ [.int .i64 f, .int .i64 t] = spc (l ++ [(f, t)]) := by simp [spc]

/-- Four cells stored into a block. -/
def set4S (W : World) (R : Nat) (a b c d : Value) : World := (((W.setCell ⟨R, 0, none⟩ a).setCell ⟨R, 1, none⟩ b).setCell ⟨R, 2, none⟩ c).setCell ⟨R, 3, none⟩ d
theorem set4S_blk {W : World} {R : Nat} {t : TypeId} {x0 x1 x2 x3 : Value} (h : W.heap[R]? = some (.cells #[x0, x1, x2, x3] t (0, 0))) (a b c d : Value) : (set4S W R a b c d).heap[R]? = some (.cells #[a, b, c, d] t (0, 0)) := by
  have := blk_set (blk_set (blk_set (blk_set h 0 a) 1 b) 2 c) 3 d
  simpa [set4S] using this
theorem set4S_below {n : Nat} {w W : World} {R : Nat} (h : Below n w W) (hn : n ≤ R) (a b c d : Value) : Below n w (set4S W R a b c d) :=
  (((h.setCell (p := ⟨R, 0, none⟩) hn a).setCell (p := ⟨R, 1, none⟩) hn b).setCell (p := ⟨R, 2, none⟩) hn c).setCell (p := ⟨R, 3, none⟩) hn d
theorem own_set4S {W : World} {B e s k R : Nat} {v a b c d : Value} {xs : List Value} (h : W.ownsRow B e s v k xs) (hX : v.ownBlock = none ∨ v.ownBlock ≠ some R) : (set4S W R a b c d).ownsRow B e s v k xs :=
  own_farS (own_farS (own_farS (own_farS h hX) hX) hX) hX

/-- What holds while a record is read: its box, the result's, the lists so far. -/
structure DI (T : TypeId) (n₀ : Nat) (w : World) (R O : Nat) (nm : ByteArray) (st : Int) (LV GV : Value) (bs : List Nat) (gs : List (Int × Int)) (W : World) : Prop where
  box : W.heap[O]? = some (.cells #[.string nm, .int .i64 st, LV, GV] T (0, 0))
  res : W.heap[R]? = some (.cells #[.string ⟨#[]⟩, .int .i64 0, .slice none 0 0, .slice none 0 0] T (0, 0))
  ne : R ≠ O
  low : n₀ ≤ R ∧ n₀ ≤ O
  lev : W.ownsRow n₀ 60 1 LV bs.length (flc bs)
  gap : W.ownsRow n₀ 50 2 GV gs.length (spc gs)
  bel : Below n₀ w W
section
variable {T : TypeId} {n₀ : Nat} {w : World} {R O : Nat} {nm : ByteArray} {st : Int} {LV GV : Value} {bs : List Nat} {gs : List (Int × Int)} {W W' : World}
theorem DI.below (h : DI T n₀ w R O nm st LV GV bs gs W) (hb : Below W.heap.size W W') : DI T n₀ w R O nm st LV GV bs gs W' :=
  ⟨(hb.block _ (blk_lt h.box)).trans h.box, (hb.block _ (blk_lt h.res)).trans h.res, h.ne, h.low, own_belS h.lev hb, own_belS h.gap hb, h.bel.trans (hb.mono (Nat.le_trans h.low.1 (Nat.le_of_lt (blk_lt h.res))))⟩
theorem DI.putG (hT : T ≠ 60 ∧ T ≠ 50) (h : DI T n₀ w R O nm st LV GV bs gs W) {v' : Value} {f t : Int} (hown : W'.ownsRow n₀ 50 2 v' (gs.length + 1) (spc gs ++ [.int .i64 f, .int .i64 t])) (hg : W.grownBy W' GV.ownBlock) :
    DI T n₀ w R O nm st LV v' bs (gs ++ [(f, t)]) (W'.setCell ⟨O, 3, none⟩ v') := by
  have bO := (hg.block O (blk_lt h.box) (blk_not_row h.box hT.2 h.gap)).trans h.box
  have bR := (hg.block R (blk_lt h.res) (blk_not_row h.res hT.2 h.gap)).trans h.res
  have l1 := h.lev.kept hg (own_typesS h.lev h.gap (by decide))
  refine ⟨by simpa using blk_set bO 3 v', (Below.heap_setCell W' ⟨O, 3, none⟩ v' _ (by show R ≠ O; exact h.ne)).trans bR, h.ne, h.low, own_farS l1 (own_boxS l1 bO hT.1), ?_, (h.bel.grown hg (Nat.le_trans h.low.1 (Nat.le_of_lt (blk_lt h.res))) (fun j hj => (h.gap.lt j hj).1)).setCell (p := ⟨O, 3, none⟩) h.low.2 v'⟩
  rw [← spc_snocS, List.length_append]
  exact own_farS hown (own_boxS hown bO hT.2)
theorem DI.putL (hT : T ≠ 60 ∧ T ≠ 50) (h : DI T n₀ w R O nm st LV GV bs gs W) {v' : Value} {x : Nat} (hown : W'.ownsRow n₀ 60 1 v' (bs.length + 1) (flc bs ++ [.float .f32 x])) (hg : W.grownBy W' LV.ownBlock) :
    DI T n₀ w R O nm st v' GV (bs ++ [x]) gs (W'.setCell ⟨O, 2, none⟩ v') := by
  have bO := (hg.block O (blk_lt h.box) (blk_not_row h.box hT.1 h.lev)).trans h.box
  have bR := (hg.block R (blk_lt h.res) (blk_not_row h.res hT.1 h.lev)).trans h.res
  have g1 := h.gap.kept hg (own_typesS h.gap h.lev (by decide))
  refine ⟨by simpa using blk_set bO 2 v', (Below.heap_setCell W' ⟨O, 2, none⟩ v' _ (by show R ≠ O; exact h.ne)).trans bR, h.ne, h.low, ?_, own_farS g1 (own_boxS g1 bO hT.2), (h.bel.grown hg (Nat.le_trans h.low.1 (Nat.le_of_lt (blk_lt h.res))) (fun j hj => (h.lev.lt j hj).1)).setCell (p := ⟨O, 2, none⟩) h.low.2 v'⟩
  rw [show flc (bs ++ [x]) = flc bs ++ [.float .f32 x] by simp [flc], List.length_append]
  exact own_farS hown (own_boxS hown bO hT.1)
end

set_option maxRecDepth 1000000 in
set_option maxHeartbeats 8000000 in
theorem body_any (nm : ByteArray) (st : Int) (s : ByteArray) (p q g m : Nat) (A1 A2 : Option Addr) (c1 c2 : Nat) (w : World) (hg : Rd w w.heap.size (.slice A1 (8 * g) c1) (8 * g) (bys s p (8 * g))) (hl : Rd w w.heap.size (.slice A2 (4 * m) c2) (4 * m) (bys s q (4 * m))) (hgm : g ≤ 1000 ∧ m ≤ 1000) (hs : nm.size ≤ maxLen) (E : Int) (hE : E = bodE nm st s p q g m) :
    Calls Tryz.prog 46 #[.agg #[.string nm, .int .i64 st, .slice none 0 0, .slice none 0 0], .slice A1 (8 * g) c1, .slice A2 (4 * m) c2] w fun e w' => Below w.heap.size w w' ∧
      ((E = 0 ∧ ∃ LV GV, e = .returned (.tuple #[.agg #[.string nm, .int .i64 st, LV, GV], .int .i64 0]) ∧ w'.ownsRow w.heap.size 60 1 LV m (flc (dB s q m)) ∧ w'.ownsRow w.heap.size 50 2 GV g (spc (dG s p g))) ∨
       (E ≠ 0 ∧ e = .returned (.tuple #[.agg #[.string ⟨#[]⟩, .int .i64 0, .slice none 0 0, .slice none 0 0], .int .i64 E]))) := by
  obtain ⟨i0, hi, hz0, hz1, hz2⟩ := info_parts spanInfo
  have HG := hd hg
  have HL := hd hl
  obtain ⟨hg1, hm1⟩ := hgm
  have HEE := hd hE
  clear hg hl hE
  go_enter Tryz.func46, Tryz.ntmps46
  go_wp2_with fail
  obtain ⟨W0, hW0⟩ : ∃ W0, W0 = (w.alloc (.cells #[.string nm, .int .i64 st, .slice none 0 0, .slice none 0 0] 35)).alloc (.cells #[.string ⟨#[]⟩, .int .i64 0, .slice none 0 0, .slice none 0 0] 35) := ⟨_, rfl⟩
  have HD0 := hd (show DI 35 w.heap.size w (w.heap.size + 1) w.heap.size nm st (.slice none 0 0) (.slice none 0 0) [] [] W0 from by
    rw [hW0]
    have h1 := blk_new (w.alloc (.cells #[.string nm, .int .i64 st, .slice none 0 0, .slice none 0 0] 35)) #[.string ⟨#[]⟩, .int .i64 0, .slice none 0 0, .slice none 0 0] 35
    simp only [World.size_alloc] at h1
    exact ⟨(Below.heap_alloc _ _ _ (by simp)).trans (blk_new _ _ _), h1, by omega, by omega, World.ownsRow_nil _ _ _ _, World.ownsRow_nil _ _ _ _, ((Below.refl _ w).alloc (Nat.le_refl _) _).alloc (by simp) _⟩)
  have HRG := hd (fun (W : World) (hB : Below w.heap.size w W) => (HG.out.below hB (Nat.le_refl _)).mono hB.size)
  have HRL := hd (fun (W : World) (hB : Below w.heap.size w W) => (HL.out.below hB (Nat.le_refl _)).mono hB.size)
  rw [← hW0]
  clear hW0
  have HSN := hd hs
  clear hs
  obtain ⟨R, hR⟩ : ∃ R, R = w.heap.size + 1 := ⟨_, rfl⟩
  obtain ⟨O, hO⟩ : ∃ O, O = w.heap.size := ⟨_, rfl⟩
  have HD1 := hd (show DI 35 w.heap.size w R O nm st (.slice none 0 0) (.slice none 0 0) [] [] W0 from by rw [hR, hO]; exact HD0.out)
  rw [show (⟨w.heap.size + 1, 0, none⟩ : Addr) = ⟨R, 0, none⟩ by rw [hR], show (⟨w.heap.size, 0, none⟩ : Addr) = ⟨O, 0, none⟩ by rw [hO]]
  clear HD0 hR hO
  go_loopw [15] (fun i wr => ∃ k : Nat, k ≤ g ∧ i = .int .i64 k ∧ Hid (∃ A c, DI 35 w.heap.size w R O nm st (.slice none 0 0) (.slice A k c) [] (dG s p k) wr)) (fun i _ => g - (intOf i).toNat)
  case atStart => exact ⟨0, Nat.zero_le _, rfl, ⟨none, 0, HD1.out⟩⟩
  case round =>
    obtain ⟨k, hk, rfl, HI⟩ := hrel
    clear HD1
    obtain ⟨GA, gc, HJ'⟩ := HI.out
    have HJ := hd HJ'
    clear HI HJ'
    by_cases hlt : k < g
    · obtain ⟨A', c', e', hcc, hcm, hx⟩ := HRG.out _ HJ.out.bel
      cases e'
      obtain ⟨b, off, rfl, hbb, hcell⟩ := hx (by omega)
      have hca : ∀ j, j < 8 * g → wr.cell? ⟨b, off + j, none⟩ = some (.int .u8 (bAt s (p + j) : Int)) := fun j hj => (hcell j (by rw [bys_len]; exact hj)).trans (bys_at s p _ j hj)
      have HW1 := hd (fun (X : World) (hX : Below wr.heap.size wr X) => show Calls Tryz.prog 45 #[.slice (some ⟨b, off, none⟩) (8 * g) c1, .int .i64 (2 * (k : Int))] X fun e w' => e = .returned (.int .u32 (w4 s (p + 8 * k) : Int)) ∧ Below X.heap.size X w' from by
        have hc : ∀ j, j < 8 * g → X.cell? ⟨b, off + j, none⟩ = some (.int .u8 (bAt s (p + j) : Int)) := fun j hj => (hX.cell (p := ⟨b, off + j, none⟩) hbb).trans (hca j hj)
        refine (word_any s b off (8 * g) c1 (2 * k) (p + 8 * k) X ?_ ?_ ?_ ?_ (by omega) hcc hcm).mono ?_
        · rw [show off + 4 * (2 * k) = off + (8 * k) by omega]; exact hc (8 * k) (by omega)
        · rw [show off + 4 * (2 * k) + 1 = off + (8 * k + 1) by omega, show p + 8 * k + 1 = p + (8 * k + 1) by omega]; exact hc (8 * k + 1) (by omega)
        · rw [show off + 4 * (2 * k) + 2 = off + (8 * k + 2) by omega, show p + 8 * k + 2 = p + (8 * k + 2) by omega]; exact hc (8 * k + 2) (by omega)
        · rw [show off + 4 * (2 * k) + 3 = off + (8 * k + 3) by omega, show p + 8 * k + 3 = p + (8 * k + 3) by omega]; exact hc (8 * k + 3) (by omega)
        · rintro e w' ⟨rfl, q', rfl⟩; exact ⟨rfl, below_dq (Below.refl _ _) q'⟩)
      have HW2 := hd (fun (X : World) (hX : Below wr.heap.size wr X) => show Calls Tryz.prog 45 #[.slice (some ⟨b, off, none⟩) (8 * g) c1, .int .i64 (2 * (k : Int) + 1)] X fun e w' => e = .returned (.int .u32 (w4 s (p + 8 * k + 4) : Int)) ∧ Below X.heap.size X w' from by
        have hc : ∀ j, j < 8 * g → X.cell? ⟨b, off + j, none⟩ = some (.int .u8 (bAt s (p + j) : Int)) := fun j hj => (hX.cell (p := ⟨b, off + j, none⟩) hbb).trans (hca j hj)
        refine (word_any s b off (8 * g) c1 (2 * k + 1) (p + 8 * k + 4) X ?_ ?_ ?_ ?_ (by omega) hcc hcm).mono ?_
        · rw [show off + 4 * (2 * k + 1) = off + (8 * k + 4) by omega, show p + 8 * k + 4 = p + (8 * k + 4) by omega]; exact hc (8 * k + 4) (by omega)
        · rw [show off + 4 * (2 * k + 1) + 1 = off + (8 * k + 5) by omega, show p + 8 * k + 4 + 1 = p + (8 * k + 5) by omega]; exact hc (8 * k + 5) (by omega)
        · rw [show off + 4 * (2 * k + 1) + 2 = off + (8 * k + 6) by omega, show p + 8 * k + 4 + 2 = p + (8 * k + 6) by omega]; exact hc (8 * k + 6) (by omega)
        · rw [show off + 4 * (2 * k + 1) + 3 = off + (8 * k + 7) by omega, show p + 8 * k + 4 + 3 = p + (8 * k + 7) by omega]; exact hc (8 * k + 7) (by omega)
        · rintro e w' ⟨rfl, q', rfl⟩; exact ⟨rfl, below_dq (Below.refl _ _) q'⟩)
      obtain ⟨f, hfe⟩ : ∃ f, f = w4 s (p + 8 * k) := ⟨_, rfl⟩
      obtain ⟨t, hte⟩ : ∃ t, t = w4 s (p + 8 * k + 4) := ⟨_, rfl⟩
      have hf32 : f < 4294967296 := by rw [hfe]; exact w4_lt _ _
      have ht32 : t < 4294967296 := by rw [hte]; exact w4_lt _ _
      rw [← hfe] at HW1
      rw [← hte] at HW2
      have HSU := hd (show dG s p (k + 1) = dG s p k ++ [((f : Int), (t : Int))] by rw [dG_succ, hfe, hte])
      clear hfe hte
      have HF3 := hd (fun (X : World) (hX : Below wr.heap.size wr X) => show X.cell? ⟨O, 3, none⟩ = some (.slice GA k gc) from (hX.cell (p := ⟨O, 3, none⟩) (blk_lt HJ.out.box)).trans (by simpa using blk_cell HJ.out.box 3))
      have f3 := HF3.out wr (Below.refl _ _)
      have hki : (k : Int) < (g : Int) := by omega
      have hk1 : (k : Int) ≤ 1000 := by omega
      have H63 := hd (show k + 1 ≤ maxLen by unfold maxLen; omega)
      have HBY := hd (show (k + 1) * 16 ≤ 140737488355328 by omega)
      have HII := hd (And.intro hi (And.intro hz0 (And.intro hz1 hz2)))
      clear hcell hx hca
      go_wp2_with fail
      have wr1 : IntKind.i64.wrap (2 * (k : Int)) = 2 * (k : Int) := IntWalk.i64_in _ (by omega)
      have wr2 : IntKind.i64.wrap (2 * (k : Int) + 1) = 2 * (k : Int) + 1 := IntWalk.i64_in _ (by omega)
      have wr3 : IntKind.i64.wrap (f : Int) = (f : Int) := IntWalk.i64_in _ (by omega)
      have wr4 : IntKind.i64.wrap (t : Int) = (t : Int) := IntWalk.i64_in _ (by omega)
      go_region_law (first
          | (refine step_append_ownS (x2.alloc (Obj.cells #[.int .i64 (f : Int), .int .i64 (t : Int)] 50)) (by rfl) (.tmp 19) (.tmp 32) 23 (by rfl) w.heap.size 50 i0 (.agg #[.int .i64 0, .int .i64 0]) 2 16 Tryz.underlying23 HII.out.1 HII.out.2.1 HII.out.2.2.1 HII.out.2.2.2 rfl (by decide) (.slice GA k gc) k (spc (dG s p k)) (by rfl) (by have h := HJ2.out.gap; rw [dG_len] at h; exact h.alloc _) ⟨x2.heap.size, 0, none⟩ 1 1 [.int .i64 (f : Int), .int .i64 (t : Int)] (by rfl) (by rfl) (new_two x2 _ _ _) (by simp [Value.oneCell']) H63.out HBY.out (by have h1 := HJ2.out.bel.size; simp; omega) ?_; intro v' w5 hown' hg5 _; obtain ⟨A5, c5, hv5, -⟩ := own_form hown'; subst hv5; have HN := hd (And.intro hown' hg5); have HJ3 := hd (HJ2.out.below ((Below.refl _ x2).alloc (Nat.le_refl _) (Obj.cells #[.int .i64 (f : Int), .int .i64 (t : Int)] 50))); have hb5 := (hg5.block O (blk_lt HJ3.out.box) (blk_not_row HJ3.out.box (by decide) HJ3.out.gap)).trans HJ3.out.box; have r3 := blk_cell hb5 3; have r4 := blk_frozen hb5 3; simp at r3; clear hown' hg5 hb5)
          | (go_simp; go_at_call 45; refine (HW2.out x1 HX1.out).mono ?_; rintro e x2 ⟨rfl, hb⟩; have HX2 := hd (HX1.out.trans (hb.mono HX1.out.size)); have h3 := HF3.out _ HX2.out; have h3' := fun o => cell_alloc_old (o := o) h3; have HJ2 := hd (HJ.out.below HX2.out); clear hb)
          | (go_simp; go_at_call 45; refine (HW1.out wr.drew ((Below.refl _ wr).drew)).mono ?_; rintro e x1 ⟨rfl, hb⟩; have HX1 := hd (((Below.refl _ wr).drew).trans hb); have g3 := HF3.out _ HX1.out; clear hb))
      all_goals
        clear wr1 wr2 wr3 wr4 h3'
        go_wp2_with fail
        go_roundw
        case rel => exact ⟨k + 1, by omega, by go_num, hd ⟨A5, c5, by rw [HSU.out]; exact HJ3.out.putG (by decide) (by rw [dG_len]; exact HN.out.1) HN.out.2⟩⟩
        case measure => simp [intOf]; omega
    · obtain rfl : k = g := by omega
      have HK1 := hd (show DI 35 w.heap.size w R O nm st (.slice none 0 0) (.slice GA k gc) (dB s q 0) (dG s p k) wr from HJ.out)
      clear HJ
      go_wp2_with fail
      go_loopw [39] (fun i wr => ∃ j : Nat, j ≤ m ∧ i = .int .i64 j ∧ Hid (∃ A c, DI 35 w.heap.size w R O nm st (.slice A j c) (.slice GA k gc) (dB s q j) (dG s p k) wr) ∧ Hid (2147483648 ∉ dB s q j)) (fun i _ => m - (intOf i).toNat)
      case atStart => exact ⟨0, Nat.zero_le _, rfl, ⟨none, 0, HK1.out⟩, hd (by simp [dB])⟩
      case round =>
        obtain ⟨j, hj, rfl, HI, HM⟩ := hrel
        clear HK1
        obtain ⟨LA, lc, HJ'⟩ := HI.out
        have HJ := hd HJ'
        clear HI HJ'
        by_cases hlt2 : j < m
        · obtain ⟨A', c', e', hcc, hcm, hx⟩ := HRL.out _ HJ.out.bel
          cases e'
          obtain ⟨b, off, rfl, hbb, hcell⟩ := hx (by omega)
          have hca : ∀ i, i < 4 * m → wr.cell? ⟨b, off + i, none⟩ = some (.int .u8 (bAt s (q + i) : Int)) := fun i hi => (hcell i (by rw [bys_len]; exact hi)).trans (bys_at s q _ i hi)
          have HW1 := hd (show Calls Tryz.prog 45 #[.slice (some ⟨b, off, none⟩) (4 * m) c2, .int .i64 (j : Int)] wr fun e w' => e = .returned (.int .u32 (w4 s (q + 4 * j) : Int)) ∧ ∃ q', w' = wr.drewN q' from by
            refine word_any s b off (4 * m) c2 j (q + 4 * j) wr ?_ ?_ ?_ ?_ (by omega) hcc hcm
            · exact hca (4 * j) (by omega)
            · rw [show off + 4 * j + 1 = off + (4 * j + 1) by omega, show q + 4 * j + 1 = q + (4 * j + 1) by omega]; exact hca (4 * j + 1) (by omega)
            · rw [show off + 4 * j + 2 = off + (4 * j + 2) by omega, show q + 4 * j + 2 = q + (4 * j + 2) by omega]; exact hca (4 * j + 2) (by omega)
            · rw [show off + 4 * j + 3 = off + (4 * j + 3) by omega, show q + 4 * j + 3 = q + (4 * j + 3) by omega]; exact hca (4 * j + 3) (by omega))
          obtain ⟨x, hxe⟩ : ∃ x, x = w4 s (q + 4 * j) := ⟨_, rfl⟩
          have hx32 : x < 4294967296 := by rw [hxe]; exact w4_lt _ _
          rw [← hxe] at HW1
          have HSU := hd (show dB s q (j + 1) = dB s q j ++ [x] by rw [dB_succ, hxe])
          have HIN := hd (show x ∈ dB s q m from by rw [hxe]; exact List.mem_map.2 ⟨j, List.mem_range.2 hlt2, rfl⟩)
          have hji : (j : Int) < (m : Int) := by omega
          clear hcell hx hca hxe
          go_wp2_with fail
          refine HW1.out.mono ?_
          rintro e x1 ⟨rfl, q', rfl⟩
          have HJ2 := hd (HJ.out.below (below_dq (Below.refl _ _) q'))
          obtain ⟨W2, hW2⟩ : ∃ W2, W2 = wr.drewN q' := ⟨_, rfl⟩
          rw [← hW2] at HJ2 ⊢
          clear hW2 HW1
          by_cases hmin : x = 2147483648
          · subst hmin
            have r0 := blk_cell HJ2.out.res 0
            have r1 := blk_cell HJ2.out.res 1
            have r2 := blk_cell HJ2.out.res 2
            have r3 := blk_cell HJ2.out.res 3
            have y0 := blk_frozen HJ2.out.res 0
            have y1 := blk_frozen HJ2.out.res 1
            have y2 := blk_frozen HJ2.out.res 2
            have y3 := blk_frozen HJ2.out.res 3
            simp at r0 r1 r2 r3
            have HE1 := hd (show E = 1 by rw [HEE.out]; unfold bodE; rw [if_pos HIN.out])
            go_wp2_with fail
            have hq := set4S_blk HJ2.out.res (.string ⟨#[]⟩) (.int .i64 0) (.slice none 0 0) (.slice none 0 0)
            have z0 := blk_cell hq 0
            have z1 := blk_cell hq 1
            have z2 := blk_cell hq 2
            have z3 := blk_cell hq 3
            simp at z0 z1 z2 z3
            have HB5 := hd (set4S_below HJ2.out.bel HJ2.out.low.1 (.string ⟨#[]⟩) (.int .i64 0) (.slice none 0 0) (.slice none 0 0))
            change bodyPost _ _ _ _ _ (set4S W2 R (.string ⟨#[]⟩) (.int .i64 0) (.slice none 0 0) (.slice none 0 0))
            generalize set4S W2 R (.string ⟨#[]⟩) (.int .i64 0) (.slice none 0 0) (.slice none 0 0) = W6 at *
            clear hq r0 r1 r2 r3 y0 y1 y2 y3
            exact bodyPost_ret (v := .tuple #[.agg #[.string ⟨#[]⟩, .int .i64 0, .slice none 0 0, .slice none 0 0], .int .i64 1]) (by simp [results, Tryz.results46, go_sem, z0, z1, z2, z3]) rfl ⟨HB5.out, .inr ⟨by rw [HE1.out]; decide, by rw [HE1.out]⟩⟩
          · have HF := hd (hd HJ2.out.box)
            have f2 := blk_cell HJ2.out.box 2
            simp at f2
            have hmi : ¬ ((x : Int) = 2147483648) := by omega
            have hfb : ∀ w : World, (callFunc 81 #[.int .u32 (x : Int)]).run Tryz.prog w = .ok (.value (.float .f32 x)) w := fun w => by have h := f32from_runS (x : Int) w; rwa [Int.toNat_natCast] at h
            have H63 := hd (show j + 1 ≤ maxLen by unfold maxLen; omega)
            have HBY := hd (show (j + 1) * 4 ≤ 140737488355328 by omega)
            obtain ⟨j0, hj0, hy0, hy1, hy2⟩ := info_parts floatInfo
            have HII := hd (And.intro hj0 (And.intro hy0 (And.intro hy1 hy2)))
            have HMM := hd (show 2147483648 ∉ dB s q (j + 1) from by rw [HSU.out]; simp only [List.mem_append, List.mem_singleton]; rintro (h | h); exact HM.out h; exact hmin h.symm)
            clear HF hmin
            have f2' := fun o => cell_alloc_old (w := W2.drew) (o := o) (show W2.drew.cell? ⟨O, 2, none⟩ = _ from f2)
            have f2'' := fun o => cell_alloc_old (w := W2) (o := o) f2
            have HJ4 := hd (HJ2.out.below ((Below.refl _ W2).drew.alloc (Nat.le_refl _) (Obj.cells #[.float .f32 x] 60)))
            have HLV := hd (show (W2.drew.alloc (Obj.cells #[.float .f32 x] 60)).ownsRow w.heap.size 60 1 (.slice LA j lc) j (flc (dB s q j)) from by have h := HJ4.out.lev; rw [dB_len] at h; exact h)
            go_wp2_with fail
            go_region_law (first
              | (refine step_append_ownS (W2.drew.alloc (Obj.cells #[.float .f32 x] 60)) (by rfl) (.tmp 49) (.tmp 52) 22 (by rfl) w.heap.size 60 j0 (.float .f32 0) 1 4 Tryz.underlying22 HII.out.1 HII.out.2.1 HII.out.2.2.1 HII.out.2.2.2 rfl (by decide) (.slice LA j lc) j (flc (dB s q j)) (by rfl) HLV.out ⟨W2.heap.size, 0, none⟩ 1 1 [.float .f32 x] (by rfl) (by rfl) (cell_one_newS W2.drew _ _) (by simp [Value.oneCell']) H63.out HBY.out (by have h1 := HJ2.out.bel.size; simp; omega) ?_; intro v' w5 hown' hg5 _; obtain ⟨A5, c5, hv5, -⟩ := own_form hown'; subst hv5; have HN := hd (And.intro hown' hg5); have hb5 := (hg5.block O (blk_lt HJ4.out.box) (blk_not_row HJ4.out.box (by decide) HJ4.out.lev)).trans HJ4.out.box; have r3 := blk_cell hb5 2; have r4 := blk_frozen hb5 2; simp at r3; clear hown' hg5 hb5))
            all_goals
              clear f2' f2''
              go_wp2_with fail
              go_roundw
              case rel => exact ⟨j + 1, by omega, by go_num, hd ⟨A5, c5, by rw [HSU.out]; exact HJ4.out.putL (by decide) (by rw [dB_len]; exact HN.out.1) HN.out.2⟩, HMM⟩
              case measure => simp [intOf]; omega
        · obtain rfl : j = m := by omega
          have HE2 := hd (show E = chkRec nm st (dB s q j) (dG s p k) by rw [HEE.out]; unfold bodE; rw [if_neg HM.out])
          have b0 := blk_cell HJ.out.box 0
          have b1 := blk_cell HJ.out.box 1
          have b2 := blk_cell HJ.out.box 2
          have b3 := blk_cell HJ.out.box 3
          simp at b0 b1 b2 b3
          have HRL3 := hd (show Rd wr wr.heap.size (.slice LA j lc) (dB s q j).length (flc (dB s q j)) from by rw [dB_len]; have h := rd_of_own HJ.out.lev; rw [dB_len] at h; exact h)
          have HRG3 := hd (show Rd wr wr.heap.size (.slice GA k gc) (dG s p k).length (spc (dG s p k)) from by rw [dG_len]; have h := rd_of_own HJ.out.gap; rw [dG_len] at h; exact h)
          go_wp2_with fail
          refine (chkRec_any nm st _ _ (dB s q j) (dG s p k) _ HRL3.out HRG3.out HSN.out).mono ?_
          rw [← HE2.out]
          rintro e w7 ⟨rfl, hb⟩
          have HJ5 := hd (HJ.out.below hb)
          have HRL5 := hd ((HRL3.out.below hb (Nat.le_refl _)).mono hb.size)
          have HRG5 := hd ((HRG3.out.below hb (Nat.le_refl _)).mono hb.size)
          clear b0 b1 b2 b3 hb HRL3 HRG3
          have r0 := blk_cell HJ5.out.res 0
          have r1 := blk_cell HJ5.out.res 1
          have r2 := blk_cell HJ5.out.res 2
          have r3 := blk_cell HJ5.out.res 3
          have y0 := blk_frozen HJ5.out.res 0
          have y1 := blk_frozen HJ5.out.res 1
          have y2 := blk_frozen HJ5.out.res 2
          have y3 := blk_frozen HJ5.out.res 3
          simp at r0 r1 r2 r3
          by_cases h0 : E = 0
          · have hE0 : (E != 0) = false := by simp [h0]
            have c0 := blk_cell HJ5.out.box 0
            have c1' := blk_cell HJ5.out.box 1
            have c2' := blk_cell HJ5.out.box 2
            have c3 := blk_cell HJ5.out.box 3
            simp at c0 c1' c2' c3
            have H0 := hd h0
            clear h0
            go_wp2_with fail
            have hq := set4S_blk HJ5.out.res (.string nm) (.int .i64 st) (.slice LA j lc) (.slice GA k gc)
            have z0 := blk_cell hq 0
            have z1 := blk_cell hq 1
            have z2 := blk_cell hq 2
            have z3 := blk_cell hq 3
            simp at z0 z1 z2 z3
            have HB5 := hd (set4S_below HJ5.out.bel HJ5.out.low.1 (.string nm) (.int .i64 st) (.slice LA j lc) (.slice GA k gc))
            have HL6 := hd ((own_set4S (R := R) (a := .string nm) (b := .int .i64 st) (c := .slice LA j lc) (d := .slice GA k gc) HJ5.out.lev (own_boxS HJ5.out.lev HJ5.out.res (by decide))))
            have HG6 := hd ((own_set4S (R := R) (a := .string nm) (b := .int .i64 st) (c := .slice LA j lc) (d := .slice GA k gc) HJ5.out.gap (own_boxS HJ5.out.gap HJ5.out.res (by decide))))
            rw [dB_len] at HL6
            rw [dG_len] at HG6
            change bodyPost _ _ _ _ _ (set4S w7 R (.string nm) (.int .i64 st) (.slice LA j lc) (.slice GA k gc))
            generalize set4S w7 R (.string nm) (.int .i64 st) (.slice LA j lc) (.slice GA k gc) = W6 at *
            clear hq r0 r1 r2 r3 y0 y1 y2 y3 c0 c1' c2' c3
            exact bodyPost_ret (v := .tuple #[.agg #[.string nm, .int .i64 st, .slice LA j lc, .slice GA k gc], .int .i64 0]) (by simp [results, Tryz.results46, go_sem, z0, z1, z2, z3]) rfl ⟨HB5.out, .inl ⟨H0.out, _, _, rfl, HL6.out, HG6.out⟩⟩
          · have hE0 : (E != 0) = true := by simp [h0]
            have H0 := hd h0
            clear h0
            go_wp2_with fail
            have hq := set4S_blk HJ5.out.res (.string ⟨#[]⟩) (.int .i64 0) (.slice none 0 0) (.slice none 0 0)
            have z0 := blk_cell hq 0
            have z1 := blk_cell hq 1
            have z2 := blk_cell hq 2
            have z3 := blk_cell hq 3
            simp at z0 z1 z2 z3
            have HB5 := hd (set4S_below HJ5.out.bel HJ5.out.low.1 (.string ⟨#[]⟩) (.int .i64 0) (.slice none 0 0) (.slice none 0 0))
            change bodyPost _ _ _ _ _ (set4S w7 R (.string ⟨#[]⟩) (.int .i64 0) (.slice none 0 0) (.slice none 0 0))
            generalize set4S w7 R (.string ⟨#[]⟩) (.int .i64 0) (.slice none 0 0) (.slice none 0 0) = W6 at *
            clear hq r0 r1 r2 r3 y0 y1 y2 y3
            exact bodyPost_ret (v := .tuple #[.agg #[.string ⟨#[]⟩, .int .i64 0, .slice none 0 0, .slice none 0 0], .int .i64 E]) (by simp [results, Tryz.results46, go_sem, z0, z1, z2, z3]) rfl ⟨HB5.out, .inr ⟨H0.out, rfl⟩⟩
end Go.Proofs.YtkgkpcmokmhakaaGreatDoor
