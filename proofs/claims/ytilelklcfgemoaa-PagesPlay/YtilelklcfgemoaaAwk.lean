/-
  awake answers true.
-/
import Derived.Test.YtilelklcfgemoaaSc
import Derived.Lib.SlBytesConst
namespace Go.Proofs.Ytilelklcfgemoaa
open Go.RowKit
set_option linter.unusedVariables false

theorem reads_ab (w : World) (fr : Nat × Nat) : Reads (w.alloc (.cells #[.int .u8 97, .int .u8 98] 5 fr)) (.slice (some ⟨w.heap.size, 0, none⟩) 2 2) [97, 98] := by
  refine ⟨_, 2, rfl, by simp, by unfold maxLen; omega, by simp, fun _ => ⟨w.heap.size, 0, rfl, fun j x hx => ?_⟩⟩
  match j with
  | 0 => simp at hx; subst hx; rw [World.cell?_alloc_mark]; rfl
  | 1 => simp at hx; subst hx; rw [World.cell?_alloc_mark]; rfl
  | j + 2 => simp at hx
set_option maxRecDepth 100000 in
set_option maxHeartbeats 400000 in
/-- awake, anywhere. -/
theorem awake_any (w : World) : Calls Try.prog 9 #[] w fun e w' => e = .returned (.bool true) ∧ Kept [] w w' := by
  have kc := fun (w : World) (C : Array Value) (n c : Nat) => Lib.run_convert_bytes_const (P := Try.prog) w 31 5 C n c Try.underlying31 Try.underlying5
  have hnew := sy_new (Kept.refl [] w) 4 1 3 (by omega) (by omega) (by omega)
  change Calls Try.prog 10 #[.int .i64 4] w _ at hnew
  go_enter Try.func9, Try.ntmps9
  go_wp2_with fail
  refine hnew.mono ?_
  rintro e w1 ⟨q, rfl, k1, hop'⟩
  have hop := hop' w1 (Kept.refl _ _)
  clear hnew hop' k1
  change Calls Try.prog 11 #[.pointer (some ⟨q, 0, none⟩), .int .i64 1, .int .i64 3, .slice none 0 0] w1 _ at hop
  go_wp2_with fail
  refine hop.mono ?_
  rintro e w2 ⟨p, fl, rfl, hfl, hS, -⟩
  clear hop
  have hk0 := (Kept.refl [] w2).alloc (.cells #[.int .u8 97, .int .u8 98] 5 (2, 3))
  have hS2 := hS.more (Y := [w2.heap.size]) hk0 (by simp)
  have hput := sy_put hS2 (some ⟨w2.heap.size, 0, none⟩) 2 2 [97, 98] rfl (reads_ab w2 _) (fun g hg => by simp [Value.ownBlock] at hg; simp [hg]) (by simp) (by omega) (by rw [hfl]; decide) rfl (.inl (by show (-1 : Int) < 0; omega)) (by simp)
  clear hS hS2 hk0
  go_wp2_with fail
  refine hput.mono ?_
  rintro e w3 ⟨nm, vs, fu, rfl, -, -, -, -, hS, -⟩
  clear hput
  have hget := sy_get hS rfl (nm, fl.take (bks 2), [97, 98]) (by simp)
  change Calls Try.prog 24 #[.pointer (some ⟨p, 0, none⟩), .int .i64 (nm : Int)] w3 _ at hget
  go_wp2_with fail
  refine hget.mono ?_
  rintro e w4 ⟨v, rfl, hO, k4, -⟩
  have hS4 := hS.kept k4
  have hfr := sy_free hS4
  have hs4 := str34 _ _ _ hO.reads
  have hlen : (fl.drop (bks 2)).length = 2 := by rw [List.length_drop, hfl]; rfl
  clear hget hS k4
  change (convert 31 9 v).run Try.prog w4 = .ok (.string ⟨#[97, 98]⟩) w4 at hs4
  have hkk := hS4.k
  clear hS4 hO
  go_wp2_with fail
  refine hfr.mono ?_
  rintro e w5 ⟨v5, ns, rfl, hO5, ⟨hp5, -⟩, k5, -⟩
  obtain ⟨a5, c5, rfl, -, -⟩ := hO5.form
  have hlen5 := hp5.length_eq
  rw [hlen] at hlen5
  rw [hlen5]
  have hkk5 := hkk.trans k5 (by simp)
  clear hfr hO5 hp5 hlen5 hlen
  go_wp2
  go_ret
  exact ⟨rfl, hkk5⟩
end Go.Proofs.Ytilelklcfgemoaa
