/-
  CodecNil: the walk.
-/
import Derived.Test.YtkhgdeklgcafpaaRef
import Derived.Test.YtkhgdeklgcafpaaAwake
import Derived.Deep.RegionWith
import Derived.Deep.DrawnRows
namespace Go.Proofs.Ytkhgdeklgcafpaa
open Go.RowKit
attribute [local go_sem ↓] Go.wp_at_zero Go.wp_at_succ

theorem IsW.drew {t e : TypeId} {w : World} {p : Nat} {v : Value} {l : List UInt8} (h : IsW t e w p v l) : IsW t e w.drew p v l := ⟨h.box, h.own, h.apart⟩

theorem foot_new {w : World} {p : Nat} {x : Nat} (hp : w.heap.size ≤ p) (hx : x ∈ foot p (.slice none 0 0)) : x ∈ ([] : List Nat) ∨ w.heap.size ≤ x := by
  rw [mem_foot] at hx
  rcases hx with rfl | hx
  · exact .inr hp
  · simp [Value.ownBlock] at hx

set_option maxHeartbeats 2000000 in
theorem nil_walk (n : Int) (s : ByteArray) (hs : s.size ≤ 140737488351232) (w : World) :
    Calls Try.prog 8 #[.int .u64 n, .string s] w fun e w' => e = .returned (.bool true) ∧ Kept [] w w' := by
  go_enter Try.func8, Try.ntmps8
  go_wp2_with fail
  refine (awake_any _).mono ?_
  rintro e w1 ⟨rfl, hk1⟩
  go_wp2_with (first | (go_at_call 24; refine (wnum_nil _ _).mono ?_; rintro e w' ⟨rfl, rfl⟩) | (go_at_call 25; refine (wint_nil _ _ (by unfold wrap64; omega) (by unfold wrap64; omega)).mono ?_; rintro e w' ⟨rfl, rfl⟩) | (go_at_call_of 27 (Value.pointer none); refine (wtext_nil _ _).mono ?_; rintro e w' ⟨rfl, rfl⟩))
  refine (wtext_any _ _ [] s _ (new_isW w1) (by simp; omega)).mono ?_
  rintro e w2 ⟨rfl, v2, hW2, hk2, hn2⟩
  rw [List.nil_append] at hW2
  have hel := enc_length s.size
  have hlen : (enc s.size ++ s.data.toList).length ≤ 140737488355328 := by
    have hsz : s.data.toList.length = s.size := by simp
    rw [List.length_append]; omega
  have hw2 : Kept [] w w2 := hk1.trans (((Kept.refl [] w1).alloc _).trans hk2 (fun x hx => foot_new (Nat.le_refl _) hx)) (by simp)
  have hreft := fun W => reftext_any (.slice none 0 0) [] s W (Owns.nil 5 W) (by simp; omega)
  rw [List.nil_append] at hreft
  generalize enc s.size ++ s.data.toList = L at hW2 hlen hreft
  clear hk2 hn2 hk1 hel
  go_wp2_with fail
  go_region_with (first
    | (go_at_call_of 26 (Value.pointer none); refine (wbytes_nil _).mono ?_; rintro e w' ⟨rfl, rfl⟩)
    | (go_at_call 13; refine (rnum_nil _).mono ?_; rintro e w' ⟨rfl, rfl⟩)
    | (go_at_call 15; refine (rint_nil _).mono ?_; rintro e w' ⟨rfl, rfl⟩)
    | (go_at_call 17; refine (rtext_nil _).mono ?_; rintro e w' ⟨rfl, rfl⟩)
    | (go_at_call 20; refine (left_nil _).mono ?_; rintro e w' ⟨rfl, rfl⟩)
    | (go_at_call 19; refine (bad_nil _).mono ?_; rintro e w' ⟨rfl, rfl⟩)
    | (go_at_call 21; refine (end_nil _).mono ?_; rintro e w' ⟨rfl, rfl⟩)
    | (go_at_call 26; refine (wbytes_any _ v2 L _ hW2.drew hlen).mono ?_; rintro e w3 ⟨v3, rfl, hown3, hk3, hf3⟩; have hs3 := string_of (P := Try.prog) 24 5 Try.underlying24 9 Try.underlying5 Try.underlying9 _ _ w3 hown3.reads)
    | (go_at_call 28; refine (hreft _).mono ?_; rintro e w4 ⟨v4, rfl, hown4, hk4, hn4⟩; have hs4 := string_of (P := Try.prog) 24 5 Try.underlying24 9 Try.underlying5 Try.underlying9 _ _ w4 hown4.reads; have hs5 := string_of (P := Try.prog) 24 5 Try.underlying24 9 Try.underlying5 Try.underlying9 _ _ w4 (hown3.reads.kept hk4 (by simp [Value.ownBlock]))))
  all_goals
    have hfin : Kept [] w w4 := (hw2.drew.trans hk3 (by simp)).trans hk4 (by simp [Value.ownBlock])
    clear hs3 hs4 hs5 hown3 hown4 hk3 hk4 hn4 hf3 hW2 hreft hlen hw2
    go_wp2
    go_ret
    exact ⟨rfl, hfin⟩

end Go.Proofs.Ytkhgdeklgcafpaa
