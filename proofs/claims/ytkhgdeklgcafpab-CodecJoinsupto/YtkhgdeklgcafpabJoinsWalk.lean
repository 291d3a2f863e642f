/-
  CodecJoins: the walk.
-/
import Derived.Test.YtkhgdeklgcafpabWrite
import Derived.Test.YtkhgdeklgcafpabC3
namespace Go.Proofs.Ytkhgdeklgcafpab
open Go.RowKit

theorem info37 : (Try.prog.info? 37).map (fun i => (i.zero, i.size, i.bytes)) = some (some (.agg #[.int .i64 0, .int .u64 0, .string ⟨#[]⟩]), 3, 32) := by kernel_rfl

theorem new5 {w w3 : World} {v5 : Value} (hs : w.heap.size ≤ w3.heap.size) (ha : v5.ownBlock = (Value.slice (some ⟨w3.heap.size, 0, none⟩) 0 0).ownBlock ∨ v5.ownBlock = some (w3.alloc (.cells #[] 37)).heap.size) : ∀ k, v5.ownBlock = some k → k ∈ ([] : List Nat) ∨ w.heap.size ≤ k := by
  intro k hk
  rw [hk] at ha
  rcases ha with h | h
  · injection h with h
    have h' : k = w3.heap.size := h
    exact .inr (by omega)
  · injection h with h
    simp at h
    exact .inr (by omega)

set_option maxHeartbeats 2000000 in
theorem joins_walk (v0 v1 : Value) (l0 l1 : List PieceD) (w : World) (h0 : Holds w v0 l0) (h1 : Holds w v1 l1) (hn0 : ∀ n c, v0 = .slice none n c → n = 0 ∧ c = 0) (hn1 : ∀ n c, v1 = .slice none n c → n = 0 ∧ c = 0) (hh : heavy l0 + heavy l1 ≤ 1073741824) :
    Calls Try.prog 3 #[v0, v1] w fun e w' => e = .returned (.bool true) ∧ Kept [] w w' := by
  obtain ⟨i0, hi, hz0, hz1, hz2⟩ := info_parts info37
  have g0 := heavy_length l0
  have g1 := heavy_length l1
  have g2 := encAll_le l0
  have g3 := encAll_le l1
  go_enter Try.func3, Try.ntmps3
  go_wp2_with fail
  refine (awake_any _).mono ?_
  rintro e w1 ⟨rfl, hk1⟩
  go_wp2_with fail
  refine (write_any v0 l0 _ (h0.kept hk1) (by omega)).mono ?_
  rintro e w2 ⟨x2, y2, rfl, hx2, -, hk2, -, -⟩
  have hw2 := hk1.trans hk2 (by simp)
  go_wp2_with fail
  refine (write_any v1 l1 _ (h1.kept hw2) (by omega)).mono ?_
  rintro e w3 ⟨x3, y3, rfl, hx3, -, hk3, -, -⟩
  have hw3 := hw2.trans hk3 (by simp)
  have hx23 := hx2.kept hk3 (by simp)
  have hmade := World.ownsRow_made (base := 0) (e := 37) (size := 3) w3 #[] 0 (Nat.zero_le _) (by simp) (by simp)
  have hw4 : Kept [] w (w3.alloc (.cells #[] 37)) := hw3.alloc _
  have h0' := h0.kept hw4
  clear hk1 hk2 hk3 hx2
  go_wp2_with (first
    | (at_builtin; refine wpList_append_pieces rfl _ _ _ rfl 37 i0 _ Try.underlying22 hi hz0 hz1 hz2 rfl v5 l0 rfl ho5 v1 l1 rfl h1' hn1 (by omega) ?_; intro v6 w6 ho6 hg6 ha6; have hw6 : Kept [] w w6 := hw5.grown hg6 hf5; have hk36 : Kept [] w3 w6 := hk35.grown hg6 hf35; clear hg6 ha6)
    | (at_builtin; refine wpList_append_pieces rfl _ _ _ rfl 37 i0 _ Try.underlying22 hi hz0 hz1 hz2 rfl (.slice (some ⟨w3.heap.size, 0, none⟩) 0 0) [] rfl hmade v0 l0 rfl h0' hn0 (by simp; omega) ?_; intro v5 w5 ho5 hg5 ha5; rw [List.nil_append] at ho5; have hw5 : Kept [] w w5 := hw4.grown hg5 (fun k hk => by injection hk with hk; subst hk; exact .inr hw3.size); have hf5 : ∀ k, v5.ownBlock = some k → k ∈ ([] : List Nat) ∨ w.heap.size ≤ k := new5 hw3.size ha5; have hf35 : ∀ k, v5.ownBlock = some k → k ∈ ([] : List Nat) ∨ w3.heap.size ≤ k := new5 (Nat.le_refl _) ha5; have h1' := h1.kept hw5; have hk35 : Kept [] w3 w5 := ((Kept.refl [] w3).alloc _).grown hg5 (fun k hk => by injection hk with hk; subst hk; exact .inr (Nat.le_refl _)); clear hg5 ha5))
  have hb6 : ∀ x ∈ l0 ++ l1, x.n < 18446744073709551616 ∧ -9223372036854775808 ≤ x.kind ∧ x.kind ≤ 9223372036854775807 := fun x hx => by
    rcases List.mem_append.1 hx with hx | hx
    · exact h0.bounds x hx
    · exact h1.bounds x hx
  have g6 := heavy_append l0 l1
  refine (write_any v6 (l0 ++ l1) _ (holds_of_own ho6 hb6) (by omega)).mono ?_
  rintro e w7 ⟨x7, y7, rfl, hx7, -, hk7, -, -⟩
  have hk37 := hk36.trans hk7 (by simp)
  have hs0 := string_of (P := Try.prog) 24 5 Try.underlying24 9 Try.underlying5 Try.underlying9 _ _ w7 (hx23.kept hk37 (by simp)).reads
  have hs1 := string_of (P := Try.prog) 24 5 Try.underlying24 9 Try.underlying5 Try.underlying9 _ _ w7 (hx3.kept hk37 (by simp)).reads
  have hs2 := string_of (P := Try.prog) 24 5 Try.underlying24 9 Try.underlying5 Try.underlying9 _ _ w7 hx7.reads
  have hadd := fun w => run_string_add_sum (P := Try.prog) w ⟨(encAll l0).toArray⟩ ⟨(encAll l1).toArray⟩ (by simp only [ByteArray.size, List.size_toArray]; omega)
  rw [ByteArray.mk_append_mk, ← encAll_append] at hadd
  have hfin := hw6.trans hk7 (by simp)
  generalize (ByteArray.mk (encAll l0).toArray) = S0 at hs0 hadd
  generalize (ByteArray.mk (encAll l1).toArray) = S1 at hs1 hadd
  generalize (ByteArray.mk (encAll (l0 ++ l1)).toArray) = S2 at hs2 hadd
  clear ho6 hx7 hx3 hx23 hk36 hk37 hk7 hw6 hw5 hw4 hw3 hw2 ho5 hmade h0' h1' h0 h1 hn0 hn1 hb6 hk35 hf35 hf5
  go_wp2_with fail
  go_ret
  exact ⟨rfl, hfin⟩

theorem nil_of_ok {P : Program} {W : World} {base : Nat} {t e : TypeId} {v : Value} (hu : P.underlying t = some (.slice e)) (h : Value.okWide P W .any base t v) : ∀ n c, v = .slice none n c → n = 0 ∧ c = 0 := by
  rintro n c rfl
  unfold Value.okWide at h
  rw [hu] at h
  unfold Cell.okWide at h
  rw [hu] at h
  unfold Cell.ok at h
  rw [hu] at h
  match n, c, h with
  | 0, 0, _ => exact ⟨rfl, rfl⟩

end Go.Proofs.Ytkhgdeklgcafpab
