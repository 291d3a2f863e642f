/-
  layHighestFirst: a number's last bytes, laid over a part of a row.
-/
import Derived.Test.YtilelklcfgemoaaSSums
import Derived.Laws.CopyRow
namespace Go.Proofs.Ytilelklcfgemoaa
open Go.RowKit
set_option linter.unusedVariables false
/-- Block g is a row of the bytes L. -/
def Row (w : World) (g : Nat) (L : List UInt8) : Prop := w.heap[g]? = some (.cells (C8 L).toArray 5 (0, 0))
theorem Row.cell {w : World} {g : Nat} {L : List UInt8} (h : Row w g L) (j : Nat) (u : UInt8) (hu : L[j]? = some u) : w.cell? ⟨g, j, none⟩ = some (B8 u) := by
  unfold Row at h
  simp [World.cell?, h, C8, hu]
theorem Row.free {w : World} {g : Nat} {L : List UInt8} (h : Row w g L) (j : Nat) : w.frozen? ⟨g, j, none⟩ = false := by
  unfold Row at h
  simp [World.frozen?, h]
theorem Row.set {w : World} {g : Nat} {L : List UInt8} (h : Row w g L) (j : Nat) (u : UInt8) : Row (w.setCell ⟨g, j, none⟩ (B8 u)) g (L.set j u) := by
  unfold Row at h ⊢
  rw [setCell_eq_setRow w g j _ 5 (0, 0) _ h, setRow_heap w g _ _ 5 _ h]
  simp [C8]
theorem Row.kept {S : List Nat} {w w' : World} {g : Nat} {L : List UInt8} (h : Row w g L) (k : Kept S w w') (hn : g ∉ S) : Row w' g L := k.keeps h hn
theorem Row.lt {w : World} {g : Nat} {L : List UInt8} (h : Row w g L) : g < w.heap.size := lt_of_block h
/-- L, with the last k bytes of n laid from place o on. -/
def layL (L : List UInt8) (o : Nat) : Nat → Nat → List UInt8
  | 0, _ => L
  | k + 1, n => layL (L.set (o + k) (UInt8.ofNat n)) o k (n / 256)
set_option maxRecDepth 100000 in
set_option maxHeartbeats 400000 in
theorem lay_walk (g o k cap N : Nat) (L : List UInt8) (w : World) (h1 : k ≤ cap) (h2 : cap ≤ 9223372036854775807) (hL : o + k ≤ L.length) (hN : N < 18446744073709551616) (hR : Row w g L) :
    Calls Try.prog 82 #[.slice (some ⟨g, o, none⟩) k cap, .int .u64 (N : Int)] w fun e w' => e = .returned (.tuple #[]) ∧ Row w' g (layL L o k N) ∧ Kept [g] w w' := by
  go_enter Try.func82, Try.ntmps82
  go_wp2
  go_loopw [1, 4] (fun n i wr => ∃ j m : Nat, ∃ L' : List UInt8, j ≤ k ∧ i = .int .i64 ((j : Int) - 1) ∧ m < 18446744073709551616 ∧ n = .int .u64 (m : Int) ∧ Row wr g L' ∧ L'.length = L.length ∧ layL L' o j m = layL L o k N ∧ Kept [g] w wr) (fun _ i _ => (intOf i + 1).toNat)
  case atStart => exact ⟨k, N, L, Nat.le_refl _, rfl, hN, rfl, hR, rfl, rfl, Kept.refl _ _⟩
  case round =>
    obtain ⟨j, m, L', hj, rfl, hm, rfl, hR1, hl, he, hk⟩ := hrel
    have HE : Hid (layL L' o j m = layL L o k N) := he
    have HL : Hid (L'.length = L.length) := hl
    have HK : Hid (Kept [g] w wr) := hk
    have HR : Hid (Row wr g L') := hR1
    clear he hl hk hR1
    cases j with
    | zero =>
      go_wp2
      go_end0
      exact ⟨rfl, by rw [← HE.out]; exact HR.out, HK.out⟩
    | succ i =>
      have ei : ((i + 1 : Nat) : Int) - 1 = (i : Int) := by omega
      rw [ei]
      clear ei
      obtain ⟨u, hu⟩ : ∃ u, L'[o + i]? = some u := ⟨L'[o + i]'(by rw [HL.out]; omega), by simp⟩
      have hc := HR.out.cell (o + i) u hu
      have hf := HR.out.free (o + i)
      have hik : (i : Int) < (k : Int) := by omega
      have hik2 : i < k := by omega
      go_wp2
      go_roundw
      case rel =>
        have e1 : Value.int .u8 ((m : Int) % 256) = B8 (UInt8.ofNat m) := B8_of m _ (by omega)
        refine ⟨i, m / 256, L'.set (o + i) (UInt8.ofNat m), by omega, rfl, by omega, by simp, ?_, ?_, ?_, ?_⟩
        · rw [e1]; exact HR.out.set _ _
        · rw [List.length_set]; exact HL.out
        · exact HE.out
        · exact HK.out.setCell (.inl (by simp)) _
      case measure => simp [intOf]
theorem drop_set_at (L : List UInt8) (k : Nat) (b : UInt8) (h : k < L.length) : (L.set k b).drop k = b :: L.drop (k + 1) := by
  rw [List.set_eq_take_append_cons_drop, if_pos h, List.drop_append_of_le_length (by rw [List.length_take]; omega), List.drop_of_length_le (by rw [List.length_take]; omega), List.nil_append]
theorem layL_eq (o : Nat) (k : Nat) : ∀ (L : List UInt8) (n : Nat), o + k ≤ L.length → layL L o k n = L.take o ++ (be k n ++ L.drop (o + k)) := by
  induction k with
  | zero => intro L n _; simp [layL, be]
  | succ k ih =>
    intro L n h
    unfold layL be
    rw [ih _ _ (by rw [List.length_set]; omega), List.take_set_of_le (by omega), drop_set_at L (o + k) _ (by omega), List.append_assoc]
    rfl
theorem layL_length (o k : Nat) (L : List UInt8) (n : Nat) (h : o + k ≤ L.length) : (layL L o k n).length = L.length := by
  rw [layL_eq o k L n h]; simp [be_length]; omega
end Go.Proofs.Ytilelklcfgemoaa
