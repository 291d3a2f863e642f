/-
  block: a record's sealed block, in new memory.
-/
import Derived.Test.YthjdlbejfaejkaaSup
import Derived.Test.YthjdlbejfaejkaaCWText
namespace Go.Proofs.Ythjdlbejfaejkaa
open Go.RowKit
set_option linter.unusedVariables false

theorem Sealed.kept {w w' : World} {v : Value} {l : List UInt8} (h : Sealed w w' v l) : Kept [] w w' := by
  obtain ⟨_, _, _, _, _, h⟩ := h; exact h
theorem Sealed.mono {w0 w w' : World} {v : Value} {l : List UInt8} (h : Sealed w w' v l) (k : Kept [] w0 w) : Sealed w0 w' v l := by
  obtain ⟨g, h1, h2, h3, h4, h5⟩ := h
  exact ⟨g, h1, Nat.le_trans k.size h2, h3, h4, k.trans h5 (by simp)⟩
/-- A record, boxed. -/
def Boxed (w : World) (b : Nat) (g : Nat) (v : Value) : Prop := w.heap[b]? = some (.cells #[.int .u64 (g : Int), v] 48 (0, 0))
theorem Boxed.kept {S : List Nat} {w w' : World} {b g : Nat} {v : Value} (h : Boxed w b g v) (k : Kept S w w') (hn : b ∉ S) : Boxed w' b g v := k.keeps h hn
theorem Boxed.lt {w : World} {b g : Nat} {v : Value} (h : Boxed w b g v) : b < w.heap.size := lt_of_block h

set_option maxRecDepth 100000 in
set_option maxHeartbeats 400000 in
theorem block_any (g : Nat) (v : Value) (l : List UInt8) (w : World) (hg : g < 18446744073709551616) (hl : l.length ≤ 200) (hr : Reads w v l) :
    Calls Try.prog 24 #[.agg #[.int .u64 (g : Int), v]] w fun e w' => ∃ v', e = .returned v' ∧ Sealed w w' v' (blkOf g l) := by
  have k0 := (Kept.refl [] w).alloc (.cells #[.int .u64 (g : Int), v] 48)
  have hb : Boxed (w.alloc (.cells #[.int .u64 (g : Int), v] 48)) w.heap.size g v := heap_alloc_new w _
  have hpl := plc_lt g
  unfold blkOf
  obtain ⟨L, hL⟩ : ∃ L, Hid (bodyOf g l = L) := ⟨_, rfl⟩
  rw [hL.out]
  have hcv : IntKind.u32.wrap ((plc g : Nat) : Int) = ((plc g : Nat) : Int) := by rw [IntKind.wrap_u32]; omega
  go_enter Try.func24, Try.ntmps24
  go_wp2_with fail
  generalize hw0 : w.alloc (.cells #[.int .u64 (g : Int), v] 48) = w0 at k0 hb
  generalize hbb : w.heap.size = b at hb
  clear hw0
  refine (new_w w0).mono ?_
  rintro e w1 ⟨rfl, hw1⟩
  have hW1 : IsW 79 5 w1 w0.heap.size (.slice none 0 0) [] := by rw [hw1]; exact ⟨heap_alloc_new w0 _, Owns.nil 5 _, by simp [Value.ownBlock]⟩
  have k1 : Kept [] w0 w1 := by rw [hw1]; exact (Kept.refl [] w0).alloc _
  have hb1 := hb.kept k1 (by simp)
  obtain ⟨c0, c1⟩ := cell_of_two hb1
  have hblt := hb.lt
  generalize hp : w0.heap.size = p at hW1 hblt
  clear hw1
  go_wp2_with fail
  refine (wnum_any p _ [] g w1 hW1 hg (by simp)).mono ?_
  rintro e w2 ⟨rfl, v2, hW2, k2, n2⟩
  have hf2 : ∀ x ∈ foot p (.slice none 0 0), w0.heap.size ≤ x := by
    intro x hx
    rcases mem_foot.1 hx with rfl | hx
    · omega
    · simp [Value.ownBlock] at hx
  have kk2 : Kept [] w0 w2 := k1.trans k2 (fun x hx => .inr (hf2 x hx))
  have hnn2 : ∀ x, v2.ownBlock = some x → w0.heap.size ≤ x := by
    intro x hx
    rcases n2 x hx with h | h
    · simp [Value.ownBlock] at h
    · have := k1.size; omega
  rw [List.nil_append] at hW2
  have hb2 := hb.kept kk2 (by simp)
  obtain ⟨d0, d1⟩ := cell_of_two hb2
  have hs2 := string_of (P := Try.prog) 32 5 Try.underlying32 9 Try.underlying5 Try.underlying9 v l w2 ((hr.kept k0 (by simp)).kept kk2 (by simp))
  clear k2 n2 hW1 c0 c1 hb1 k1 hf2
  go_wp2_with fail
  refine (wtext_any p v2 _ ⟨l.toArray⟩ w2 hW2 (by have := enc_length g; show (enc g).length + 9 + l.toArray.size ≤ _; simp; omega)).mono ?_
  rintro e w3 ⟨rfl, v3, hW3, k3, n3⟩
  have e3 : enc g ++ enc (ByteArray.size ⟨l.toArray⟩) ++ (ByteArray.mk l.toArray).data.toList = bodyOf g l := rfl
  rw [e3, hL.out] at hW3
  have kk3 : Kept [] w0 w3 := kk2.trans k3 (fun x hx => by
    rcases mem_foot.1 hx with rfl | hx
    · exact .inr (by omega)
    · exact .inr (hnn2 x hx))
  have hb3 := hb.kept kk3 (by simp)
  obtain ⟨f0, f1⟩ := cell_of_two hb3
  clear k3 n3 hW2 d0 d1 hb2 hs2 kk2 hnn2 e3
  have hbl := bodyOf_length g l hl
  rw [hL.out] at hbl
  have hpl3 := place_any g v w3 hg
  unfold Boxed at hb3
  go_wp2_with fail
  refine hpl3.mono ?_
  rintro e w4 ⟨rfl, k4⟩
  have hW4 := hW3.kept k4 (by simp) (by simp)
  have kk4 := kk3.trans k4 (by simp)
  clear hpl3 k4 kk3 hW3 hb3 f0 f1
  go_wp2_with fail
  refine (wbytes_any p v3 L w4 hW4 (by omega)).mono ?_
  rintro e w5 ⟨v5, rfl, hO5, k5, f5⟩
  have kk5 := kk4.trans k5 (by simp)
  have hse : Calls Try.prog 36 #[.int .u8 1, .int .u32 ((plc g : Nat) : Int), v5] w5 fun e w' => ∃ v', e = .returned (.tuple #[v', .int .i64 0]) ∧ Sealed w5 w' v' (sealedL 1 (plc g) L) := seal_any 1 (plc g) v5 L w5 (by omega) hbl hO5.reads
  clear hW4 hO5 k5 f5 kk4
  go_wp2_with fail
  refine hse.mono ?_
  rintro e w6 ⟨v6, rfl, hS⟩
  have hfin := hS.mono (k0.trans kk5 (by simp))
  clear hse hS kk5
  go_wp2_with fail
  go_ret
  exact ⟨_, rfl, hfin⟩

end Go.Proofs.Ythjdlbejfaejkaa
