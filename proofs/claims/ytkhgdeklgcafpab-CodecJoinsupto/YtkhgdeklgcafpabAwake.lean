/-
  awake: the program answers.
-/
import Derived.Test.YtkhgdeklgcafpabRText
import Derived.Test.YtkhgdeklgcafpabWText
namespace Go.Proofs.Ytkhgdeklgcafpab
open Go.RowKit

/-- A new Writer. -/
theorem new_isW (w : World) : IsW 44 5 (w.alloc (.cells #[.slice none 0 0] 44)) w.heap.size (.slice none 0 0) [] :=
  ⟨heap_alloc_new w _, Owns.nil 5 _, by simp [Value.ownBlock]⟩

/-- A row of bytes that was just laid reads as it was laid. -/
theorem reads_new (w : World) (l : List UInt8) (hl : l.length ≤ maxLen) : Reads (w.alloc (.cells (C8 l).toArray 5)) (.slice (some ⟨w.heap.size, 0, none⟩) l.length l.length) l := by
  refine ⟨_, l.length, rfl, Nat.le_refl _, hl, by simp, fun _ => ⟨w.heap.size, 0, rfl, fun j u hu => ?_⟩⟩
  have h := World.news_of_block (w := w.alloc (.cells (C8 l).toArray 5)) (heap_alloc_new w _) j (B8 u) (by simp [C8, hu])
  have hadd : (⟨w.heap.size, 0, Option.none⟩ : Addr).add j = ⟨w.heap.size, 0 + j, Option.none⟩ := by unfold Addr.add; split <;> simp_all
  rw [hadd] at h
  exact h

theorem enc300 : enc 300 = [249, 1, 44] := by decide
theorem rnum300 : rnum [249, 1, 44] false = (300, [], false) := by decide

set_option maxHeartbeats 1000000 in
theorem awake_any (w : World) : Calls Try.prog 4 #[] w fun e w' => e = .returned (.bool true) ∧ Kept [] w w' := by
  have hW0 := new_isW w
  go_enter Try.func4, Try.ntmps4
  go_wp2_with fail
  refine (new_w _).mono ?_
  rintro e w1 ⟨rfl, rfl⟩
  go_wp2_with fail
  refine (wnum_any _ _ _ 300 _ hW0 (by omega) (by simp)).mono ?_
  rintro e w2 ⟨rfl, v2, hW2, hk2, hn2⟩
  go_wp2_with fail
  refine (newr_any _ [249, 1, 44] _ (reads_new w2 [249, 1, 44] (by simp [maxLen])) (by simp)).mono ?_
  rintro e w3 ⟨p3, v3, rfl, hR3, hk3, hf3, hp3⟩
  have hw2 : Kept [] w w2 := ((Kept.refl [] w).alloc _).trans hk2 (fun x hx => by rw [mem_foot] at hx; simp [Value.ownBlock] at hx; exact .inr (by omega))
  have hw23 : Kept [] w2 w3 := ((Kept.refl [] w2).alloc _).trans hk3 (by simp)
  have hW3 : IsW 44 5 w3 w.heap.size v2 ([] ++ enc 300) := hW2.kept hw23 (by simp) (by simp)
  have hw3 : Kept [] w w3 := hw2.trans hw23 (by simp)
  have hpp : w.heap.size ≤ p3 := by have h := hp3; have h2 := hw2.size; simp only [World.size_alloc] at h; omega
  clear hW0 hW2 hk2 hn2 hk3 hf3 hp3
  go_wp2_with fail
  refine (wbytes_any _ v2 _ _ hW3 (by rw [enc300]; simp)).mono ?_
  rintro e w4 ⟨v4, rfl, hown4, hk4, hf4⟩
  have hR4 := hR3.kept hk4 (by simp) (by simp)
  have hstr := string_of (P := Try.prog) 24 5 Try.underlying24 9 Try.underlying5 Try.underlying9 _ _ w4 hown4.reads
  rw [enc300] at hstr
  have hw4 : Kept [] w w4 := hw3.trans hk4 (by simp)
  clear hW3 hR3 hown4 hf4 hk4 hw3 hw2 hw23
  go_wp2_with fail
  refine (rnum_any p3 v3 _ false _ hR4).mono ?_
  rintro e w5 ⟨rfl, v5, hR5, hk5, hi5⟩
  rw [rnum300] at hR5 ⊢
  have hw5 : Kept [] w w5 := hw4.trans hk5 (fun x hx => by simp at hx; subst hx; exact .inr hpp)
  clear hR4 hk5 hi5 hw4
  go_wp2_with fail
  refine (end_any p3 v5 _ false _ hR5).mono ?_
  rintro e w6 ⟨rfl, rfl⟩
  go_wp2_with fail
  go_ret
  exact ⟨rfl, hw5⟩

end Go.Proofs.Ytkhgdeklgcafpab
