/-
  gauge.Encode refused; levels and bytes that come in, opened. Conditions: written at each.
  Plain words of GaugeStreams: the cells of a stream are those of a string. No program.
  Bytes that come in, opened; slices of bytes and the strings that they turn into. Conditions: written at each.
-/
import Derived.Test.YtkjgofknnhngdaaGreatDoorProg
import Derived.Test.YtkjgofknnhngdaaGreatDoorQ3
import Derived.Test.YtkjgofknnhngdaaGreatDoorOpm
import Derived.Test.YtkjgofknnhngdaaGreatDoorS1
import Derived.Test.YtkjgofknnhngdaaGreatDoorMQ
import Derived.Test.YtkjgofknnhngdaaGreatDoorS3
import Derived.ChangeSlices
import Derived.Lib.BufferRead

namespace Go.Proofs.YtkjgofknnhngdaaGreatDoor
open Go Go.ChangeShapes Go.WideShapes Go.ChangeAt Go.RowKit Go.Joins
attribute [local go_sem] Oper.semAt_some

set_option maxRecDepth 1000000 in
set_option maxHeartbeats 4000000 in
theorem encode_bad (nm : ByteArray) (st : Int) (A A2 : Option Addr) (c c2 : Nat) (bs : List Nat) (gs : List (Int × Int)) (E : Int) (w : World) (HL : Hid (Rd w w.heap.size (.slice A bs.length c) bs.length (flc bs))) (HG : Hid (Rd w w.heap.size (.slice A2 gs.length c2) gs.length (spc gs))) (hs : nm.size ≤ maxLen)
    (hE : chkRec nm st bs gs = E) (h0 : (E != 0) = true) :
    Calls Tryz.prog 14 #[.agg #[.string nm, .int .i64 st, .slice A bs.length c, .slice A2 gs.length c2]] w fun e w' => e = .returned (.tuple #[.slice none 0 0, .int .i64 E]) ∧ Below w.heap.size w w' := by
  have CR := hd (fun W h h' => show Calls Tryz.prog 34 #[.agg #[.string nm, .int .i64 st, .slice A bs.length c, .slice A2 gs.length c2]] W fun e w' => e = .returned (.int .i64 E) ∧ Below W.heap.size W w' from by rw [← hE]; exact chkRec_any nm st _ _ bs gs W h h' hs)
  clear hE hs
  have hb0 : Below w.heap.size w (w.alloc (.cells #[.string nm, .int .i64 st, .slice A bs.length c, .slice A2 gs.length c2] 31)) := (Below.refl _ w).alloc (Nat.le_refl _) _
  have RL := hd ((HL.out.below hb0 (Nat.le_refl _)).mono hb0.size)
  have RG := hd ((HG.out.below hb0 (Nat.le_refl _)).mono hb0.size)
  have HB0 := hd hb0
  clear hb0
  go_enter Tryz.func14, Tryz.ntmps14
  go_wp2_with fail
  refine (CR.out _ RL.out RG.out).mono ?_
  rintro e w1 ⟨rfl, hb1⟩
  have H1 := hd (HB0.out.trans (hb1.mono HB0.out.size))
  clear hb1
  go_wp2_with fail
  go_returns
  exact ⟨rfl, H1.out⟩

section
variable {H : Type} {enc : TypeId × Value → H}
set_option maxRecDepth 1000000 in
theorem trod_f32b {w : World} {base : Nat} {spare : Nat → Bool} {held : Bool} {t : TypeId} {fuel : Nat} {cs : List Value} {x : DataW H × List MemPlace} (ht : Tryz.prog.underlying t = some (.float .f32)) (h : DataW.trod enc Tryz.prog w base spare held fuel t cs = some x) : ∃ b, cs = [.float .f32 b] ∧ b < 4294967296 := by
  cases fuel with
  | zero => simp [DataW.trod] at h
  | succ n =>
    unfold DataW.trod at h
    simp only [ht] at h
    split at h
    all_goals first
      | (simp_all; done)
      | (rename_i k k' b hk
         first | (injection hk with hk; injection hk with hk) | injection hk with hk
         subst hk
         split at h
         · rename_i hw
           obtain ⟨rfl, hw2⟩ := hw
           exact ⟨b, rfl, by simpa [Lit.wf] using hw2⟩
         · cases h)
set_option maxRecDepth 1000000 in
theorem open_levels32 {W : World} {fuel : Nat} {v : Value} {x : DataW H × List MemPlace} (hf : DataW.trod enc Tryz.prog W 0 (fun _ => true) true fuel 22 [v] = some x) : ∃ l : List Nat, Rd W W.heap.size v l.length (flc l) ∧ Full v ∧ ∀ j, j < l.length → l.getD j 0 < 4294967296 := by
  rcases Deep.open_slice1 Tryz.underlying22 (by kernel_rfl) hf with ⟨e, -⟩ | ⟨a, len, cap, m, n, V, D, Pl, e, hb, hl, hm, hmm, -, hx⟩
  · injection e with e
    rw [e]
    exact ⟨[], Rd.nil _ _, .inl rfl, fun j hj => by simp at hj⟩
  · injection e with e
    subst e
    simp only [if_true] at hmm
    subst hmm
    obtain ⟨B, hB⟩ := Deep.choose_lt (α := Nat) (p := fun i q => V i = .float .f32 q ∧ q < 4294967296) (n := m) (fun i hi => by
      obtain ⟨b, h0, h1⟩ := trod_f32b Tryz.underlying66 (hx i hi).2
      exact ⟨b, by simpa using h0, h1⟩)
    refine ⟨(List.range len).map B, ?_, .inr ⟨a, len, m, rfl⟩, fun j hj => ?_⟩
    · have hlen : ((List.range len).map B).length = len := by simp
      rw [hlen]
      refine rd_of_cells (sz := 1) hl hm (by simp [flc]) (by omega) fun j hj => ?_
      refine ⟨_, (hx j (by omega)).1, ?_⟩
      rw [(hB j (by omega)).1]
      simp [flc, show j < len by omega]
    · have hj' : j < len := by simpa using hj
      have := (hB j (by omega)).2
      simpa [hj'] using this
end
end Go.Proofs.YtkjgofknnhngdaaGreatDoor

namespace Go.Proofs.YtkjgofknnhngdaaGreatDoor
open Go Go.RowKit

/-- A cell that is a byte. -/
def isByte (v : Value) : Prop := ∃ n : Nat, n < 256 ∧ v = .int .u8 (n : Int)
theorem bytes_str : ∀ l : List Value, (∀ v ∈ l, isByte v) → ∃ B : ByteArray, Lib.strCells B = l
  | [], _ => ⟨⟨#[]⟩, rfl⟩
  | v :: l, h => by
    obtain ⟨B, hB⟩ := bytes_str l (fun x hx => h x (List.mem_cons_of_mem _ hx))
    obtain ⟨n, hn, rfl⟩ := h v (List.mem_cons_self ..)
    refine ⟨⟨(UInt8.ofNat n :: B.data.toList).toArray⟩, ?_⟩
    unfold Lib.strCells at hB ⊢
    simp only [List.map_cons]
    rw [hB]
    congr 1
    simp
    omega
theorem four_byte (x : Nat) : ∀ v ∈ four x, isByte v := by
  intro v hv
  simp only [four, List.mem_cons, List.not_mem_nil, or_false] at hv
  rcases hv with rfl | rfl | rfl | rfl
  · exact ⟨x / 16777216 % 256, by omega, by congr 1⟩
  · exact ⟨x / 65536 % 256, by omega, by congr 1⟩
  · exact ⟨x / 256 % 256, by omega, by congr 1⟩
  · exact ⟨x % 256, by omega, by congr 1⟩
theorem fours_byte (ws : List Nat) : ∀ v ∈ fours ws, isByte v := by
  intro v hv
  unfold fours at hv
  obtain ⟨l, hl, hv⟩ := List.mem_flatten.1 hv
  obtain ⟨x, -, rfl⟩ := List.mem_map.1 hl
  exact four_byte x v hv
theorem encV_str (nm : ByteArray) (st : Int) (bs : List Nat) (gs : List (Int × Int)) (hn : nm.size < 256) : ∃ B : ByteArray, Lib.strCells B = encV nm st bs gs := by
  apply bytes_str
  intro v hv
  unfold encV encH at hv
  simp only [List.mem_append, List.mem_cons, List.not_mem_nil, or_false] at hv
  rcases hv with ((((h | h) | h) | h) | h) | h
  · rcases h with rfl | rfl | rfl | rfl
    · exact ⟨84, by omega, rfl⟩
    · exact ⟨73, by omega, rfl⟩
    · exact ⟨68, by omega, rfl⟩
    · exact ⟨69, by omega, rfl⟩
  · exact ⟨nm.size, hn, h⟩
  · unfold Lib.strCells at h
    obtain ⟨b, -, rfl⟩ := List.mem_map.1 h
    exact ⟨b.toNat, b.toNat_lt, rfl⟩
  · exact fours_byte _ v h
  · exact fours_byte _ v h
  · exact fours_byte _ v h
end Go.Proofs.YtkjgofknnhngdaaGreatDoor

namespace Go.Proofs.YtkjgofknnhngdaaGreatDoor
open Go Go.ChangeShapes Go.WideShapes Go.ChangeAt Go.RowKit Go.Joins
attribute [local go_sem] Oper.semAt_some

section
variable {H : Type} {enc : TypeId × Value → H}
set_option maxRecDepth 1000000 in
theorem open_bytes {W : World} {fuel : Nat} {v : Value} {x : DataW H × List MemPlace} (hf : DataW.trod enc Tryz.prog W 0 (fun _ => true) true fuel 41 [v] = some x) : ∃ s : ByteArray, Rd W W.heap.size v s.size (Lib.strCells s) ∧ Full v := by
  rcases open_ints (k := .u8) Tryz.underlying41 Tryz.underlying5 (by kernel_rfl) hf with ⟨e, -⟩ | ⟨a, len, cap, zs, e, -, hl, hm, hz, -, hc, hwf⟩
  · injection e with e
    rw [e]
    exact ⟨⟨#[]⟩, Rd.nil _ _, .inl rfl⟩
  · injection e with e
    subst e
    simp only [if_true] at hz
    have hb : ∀ v ∈ (zs.take len).map (Value.int .u8), isByte v := by
      intro v hv
      obtain ⟨n, hn, rfl⟩ := List.mem_map.1 hv
      have h1 := hwf n (List.mem_of_mem_take hn)
      simp only [Lit.wf, Bool.and_eq_true, decide_eq_true_eq] at h1
      have h2 : IntKind.u8.min = 0 := by decide
      have h3 : IntKind.u8.max = 255 := by decide
      rw [h2, h3] at h1
      exact ⟨n.toNat, by omega, by rw [Int.toNat_of_nonneg h1.1]⟩
    obtain ⟨B, hB⟩ := bytes_str _ hb
    have hs : B.size = len := by
      rw [← Lib.strCells_length, hB, List.length_map, List.length_take]; omega
    refine ⟨B, ?_, .inr ⟨a, len, cap, rfl⟩⟩
    rw [hs, hB]
    refine rd_of_cells (sz := 1) hl hm (by rw [List.length_map, List.length_take]; omega) (by omega) fun j hj => ⟨_, hc j (by omega), ?_⟩
    have hj' : j < len := by omega
    have hj2 : j < zs.length := by omega
    rw [List.getElem?_map, List.getElem?_take, if_pos hj', List.getElem?_eq_getElem hj2]
    simp [List.getD, hj2]
end

/-- A slice of bytes that turns into a string. -/
def StrOf (w : World) (v : Value) (s : ByteArray) : Prop :=
  (v = .slice none 0 0 ∧ s = ⟨#[]⟩) ∨ ∃ b o c : Nat, v = .slice (some ⟨b, o, none⟩) s.size c ∧ b < w.heap.size ∧ Lib.Bytes w b o s
theorem StrOf.keep {w w' : World} {v : Value} {s : ByteArray} (h : StrOf w v s) (hb : Below w.heap.size w w') : StrOf w' v s := by
  rcases h with h | ⟨b, o, c, rfl, hlt, hc⟩
  · exact .inl h
  · exact .inr ⟨b, o, c, rfl, Nat.lt_of_lt_of_le hlt hb.size, fun i hi => (hb.cell (p := ⟨b, o + i, none⟩) hlt).trans (hc i hi)⟩
theorem strOf_run {w : World} {v : Value} {s : ByteArray} (h : StrOf w v s) : (convert 41 9 v).run Tryz.prog w = .ok (.string s) w := by
  rcases h with ⟨rfl, rfl⟩ | ⟨b, o, c, rfl, -, hc⟩
  · exact Lib.run_convert_nil_bytes w 41 9 5 0 Tryz.underlying41 Tryz.underlying5 Tryz.underlying9
  · exact Lib.run_convert_whole w 41 5 9 Tryz.underlying41 Tryz.underlying5 Tryz.underlying9 b o s hc c
theorem strOf_own {w : World} {B : Nat} {v : Value} {s : ByteArray} {n : Nat} {xs : List Value} (h : w.ownsRow B 5 1 v n xs) (hx : Lib.strCells s = xs) (hn : n = s.size) : StrOf w v s := by
  have hlt := h.lt
  rcases id h.2 with ⟨rfl, rfl⟩ | ⟨g, cap, cur, rfl, _, _, h1, h2, _, _⟩
  · refine .inl ⟨rfl, ?_⟩
    apply ByteArray.ext
    exact Array.eq_empty_of_size_eq_zero hn.symm
  · subst hn
    refine .inr ⟨g, 0, cap, rfl, (hlt g rfl).2, bytes_of s w g 0 fun i hi => ?_⟩
    rw [Nat.zero_add]
    have h3 := h.cellAt i (by omega)
    rw [h3, ← hx]
    exact strCells_at s i hi
end Go.Proofs.YtkjgofknnhngdaaGreatDoor
