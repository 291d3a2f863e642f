/-
  Writer.Bytes and bytes.Clone.
-/
import Derived.Test.YtibapmjgpnldgaaDoorSmall
import Derived.Lib.SliceRun
namespace Go.Proofs.YtibapmjgpnldgaaDoor
set_option maxRecDepth 100000
open Go.RowKit
theorem inf5 : (Tryd.prog.info? 5).map (fun i => (i.zero, i.size, i.bytes)) = some (some (.int .u8 0), 1, 1) := by kernel_rfl
/-- The slice v lies in memory that is new since w. -/
def Fresh (w : World) (v : Value) : Prop := ∀ g, v.ownBlock = some g → w.heap.size ≤ g
set_option maxHeartbeats 400000 in
theorem clone_nil (c : Nat) (w : World) : Calls Tryd.prog 70 #[.slice none 0 c] w fun e w' => e = .returned (.slice none 0 0) ∧ w = w' := by
  have hq := fun w : World => Lib.run_eql_slice_nil (P := Tryd.prog) w 45 5 none 0 c 0 0 Tryd.underlying45
  go_enter Tryd.func70, Tryd.ntmps70
  go_wp2
  go_ret
  exact ⟨rfl, rfl⟩
set_option maxHeartbeats 400000 in
theorem clone_some (a : Addr) (c : Nat) (l : List UInt8) (w : World) (hl : l.length ≤ 140737488355328) (hc : ∀ j u, l[j]? = some u → w.cell? (a.add j) = some (B8 u)) :
    Calls Tryd.prog 70 #[.slice (some a) l.length c] w fun e w' => ∃ v', e = .returned v' ∧ Owns 5 w' v' l ∧ Kept [] w w' ∧ Fresh w v' := by
  obtain ⟨i0, hi, hz0, hz1, hz2⟩ := info_parts inf5
  have hq := fun w : World => Lib.run_eql_slice_nil (P := Tryd.prog) w 45 5 (some a) l.length c 0 0 Tryd.underlying45
  have hcell : Hid (∀ j u, (C8 l)[j]? = some u → (w.alloc (.cells #[] 5)).cell? (a.add j) = some u) := by
    intro j u hu
    simp only [C8, List.getElem?_map, Option.map_eq_some_iff] at hu
    obtain ⟨b, hb, rfl⟩ := hu
    have h1 := hc j b hb
    rw [World.cell?_of_block (w := w) (Below.heap_alloc _ _ _ (World.block_lt_of_cell? w _ h1))]
    exact h1
  have hmade := World.ownsRow_made (base := 0) (e := 5) (size := 1) w #[] 0 (Nat.zero_le _) (by simp) (by simp)
  clear hc
  go_enter Tryd.func70, Tryd.ntmps70
  go_wp2_with (at_builtin; refine wpList_append_own_at _ rfl _ _ _ rfl 0 5 i0 _ 1 1 Tryd.underlying45 hi hz0 hz1 hz2 rfl (by omega) _ 0 [] rfl hmade a l.length c (C8 l) rfl (by rw [C8_length, Nat.mul_one]) hcell.out (C8_one l) (by unfold maxLen; omega) (by omega) (by omega) ?_; intro v1 w1 hown hgrow hnil hat)
  go_ret
  refine ⟨v1, rfl, ?_, ((Kept.refl [] w).alloc _).grown hgrow ?_, ?_⟩
  · rw [Nat.zero_add] at hown; exact hown
  · intro k hk
    have hk' : some w.heap.size = some k := hk
    injection hk' with hk'
    exact .inr (by omega)
  · intro g hg
    rcases hat with h | h
    · have h' : some g = some w.heap.size := hg.symm.trans h
      injection h' with h'
      omega
    · rw [hg] at h; simp at h; omega
/-- bytes.Clone: the same bytes, in new memory. -/
theorem clone_any (v : Value) (l : List UInt8) (w : World) (h : Reads w v l) (hl : l.length ≤ 140737488355328) :
    Calls Tryd.prog 70 #[v] w fun e w' => ∃ v', e = .returned v' ∧ Owns 5 w' v' l ∧ Kept [] w w' ∧ Fresh w v' := by
  obtain ⟨a, cap, rfl, h2, h3, h4, h5⟩ := h
  match a with
  | none =>
    have hc := h4 rfl
    subst hc
    have h0 : l = [] := List.eq_nil_of_length_eq_zero (by omega)
    subst h0
    exact (clone_nil 0 w).mono fun e w' ⟨he, hw⟩ => ⟨_, he, hw ▸ Owns.nil 5 w, hw ▸ Kept.refl [] w, fun g hg => by simp [Value.ownBlock] at hg⟩
  | some a =>
    refine clone_some a cap l w hl fun j u hu => ?_
    have hne : l ≠ [] := fun h => by subst h; simp at hu
    obtain ⟨b, o, hab, hc⟩ := h5 hne
    simp at hab
    subst hab
    have hadd : (⟨b, o, Option.none⟩ : Addr).add j = ⟨b, o + j, Option.none⟩ := by unfold Addr.add; split <;> simp_all
    rw [hadd]
    exact hc j u hu
set_option maxHeartbeats 400000 in
theorem wbytes_nil (w : World) : Calls Tryd.prog 44 #[.pointer none] w fun e w' => e = .returned (.slice none 0 0) ∧ w = w' := by
  go_enter Tryd.func44, Tryd.ntmps44
  go_wp2
  go_ret
  exact ⟨rfl, rfl⟩
set_option maxHeartbeats 400000 in
theorem wbytes_any (p : Nat) (v : Value) (l : List UInt8) (w : World) (hW : IsW 117 5 w p v l) (hl : l.length ≤ 140737488355328) :
    Calls Tryd.prog 44 #[.pointer (some ⟨p, 0, none⟩)] w fun e w' => ∃ v', e = .returned v' ∧ Owns 5 w' v' l ∧ Kept [] w w' ∧ Fresh w v' := by
  have hcell := cell_of_one hW.box
  have hr := hW.own.reads
  go_enter Tryd.func44, Tryd.ntmps44
  go_wp2_with (go_at_call 70; refine (clone_any v l _ hr hl).mono ?_; rintro e w1 ⟨v1, rfl, hown, hk, hf⟩)
  go_ret
  exact ⟨v1, rfl, hown, hk, hf⟩
end Go.Proofs.YtibapmjgpnldgaaDoor
