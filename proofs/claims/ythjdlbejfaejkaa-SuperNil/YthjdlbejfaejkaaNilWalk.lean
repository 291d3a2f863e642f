/-
  SuperNil: the walk.
-/
import Derived.Test.YthjdlbejfaejkaaRowB
namespace Go.Proofs.Ythjdlbejfaejkaa
open Go.RowKit
set_option linter.unusedVariables false

set_option maxRecDepth 100000 in
set_option maxHeartbeats 400000 in
theorem nil_long (a : Option Addr) (n cap : Nat) (w : World) (hn : 200 < n) : Calls Try.prog 6 #[.slice a n cap] w fun e w' => e = .returned (.bool true) ∧ Kept [] w w' := by
  have hn2 : (200 : Int) < (n : Int) := by omega
  go_enter Try.func6, Try.ntmps6
  go_wp2_with fail
  refine (awake_any _).mono ?_
  rintro e w1 ⟨rfl, k1⟩
  go_wp2_with fail
  refine (awake_any _).mono ?_
  rintro e w2 ⟨rfl, k2⟩
  have k := k1.trans k2 (by simp)
  clear k1 k2
  go_wp2_with fail
  go_ret
  exact ⟨rfl, k⟩

set_option maxRecDepth 100000 in
set_option maxHeartbeats 1000000 in
theorem nil_walk (a : Option Addr) (cap : Nat) (l : List UInt8) (w : World) (hr : Reads w (.slice a l.length cap) l) (hl : l.length ≤ 200) : Calls Try.prog 6 #[.slice a l.length cap] w fun e w' => e = .returned (.bool true) ∧ Kept [] w w' := by
  have hn2 : ¬ (200 : Int) < (l.length : Int) := by omega
  have hHr := Hid.mk hr
  have hHl := Hid.mk hl
  clear hr hl
  go_enter Try.func6, Try.ntmps6
  go_wp2_with fail
  refine (awake_any _).mono ?_
  rintro e w1 ⟨rfl, k1⟩
  go_wp2_with fail
  refine (opn_nil _).mono ?_
  rintro e w' ⟨rfl, rfl⟩
  have hnew : Calls Try.prog 8 #[.int .i64 2] w1 fun e w' => ∃ q, e = .returned (.pointer (some ⟨q, 0, none⟩)) ∧ Dsk w w' q 2 [] := new_dsk 2 (by omega) k1
  go_wp2_with fail
  refine hnew.mono ?_
  rintro e w2 ⟨q, rfl, h2⟩
  clear hnew k1
  go_wp2_with fail
  refine (open_dsk h2 (by omega) (by simp)).mono ?_
  rintro e w3 ⟨p, rfl, h3, -⟩
  clear h2
  have hO0 := own_new w3 [] #[] rfl 0 rfl (by unfold maxLen; omega)
  have hk1 := (Kept.refl [] w3).alloc (.cells #[] 5)
  have hp1 := (hHr.out.kept h3.k (by simp)).kept hk1 (by simp)
  go_wp2_with (at_builtin; refine wpList_append_reads rfl _ _ rfl w3 _ _ rfl hO0 (fresh_new w3 0 0) hk1 _ _ rfl hp1 (by have := hHl.out; show 0 + _ ≤ _; omega) ?_; intro ax nx cx w4 hn4 hO4 hF4 hK4 hE4)
  rw [List.nil_append] at hO4
  have hnx : nx = l.length := by have := hn4.out; simpa using this
  subst hnx
  refine (save_first h3 hK4 _ l hO4.reads hHl.out).mono ?_
  rintro e w5 ⟨rfl, v5, hS5, K5, hp0, hp3, S, kS, hS3, f5⟩
  have hO5 : Owns 5 w5 (.slice ax l.length cx) l := hO4.kept kS (fun g hg hm => by have := hS3 g hm; have := hF4 g hg; omega)
  have hR5 := RowOf.bytes hO5
  have hx5 : ∀ g, (Value.slice ax l.length cx).ownBlock = some g → g ≠ p ∧ v5.ownBlock ≠ some g ∧ w.heap.size ≤ g := fun g hg => ⟨fun h => by have := hF4 g hg; omega, fun h => by have := hO4.lt hg; have := f5 g h; omega, Nat.le_trans h3.k.size (hF4 g hg)⟩
  have X5 := Hid.mk hx5
  have S5 := Hid.mk hS5
  have KK5 := Hid.mk K5
  have KR : Kept (Value.slice ax l.length cx).ownBlock.toList w5 w5 := Kept.refl _ _
  obtain ⟨ax', cx', hv, hb1, hb2, -⟩ := id hR5
  injection hv with e1 e2 e3
  subst e1 e3
  clear hO4 hO5 hF4 hK4 hE4 hk1 hp1 hO0 h3 kS hS3 f5 hx5 hS5 K5 hn4 e2
  go_wp2_with fail
  go_loopw [37] (fun i wr => ∃ j : Nat, j ≤ l.length ∧ i = .int .i64 (j : Int) ∧ Kept (Value.slice ax l.length cx).ownBlock.toList w5 wr ∧ RowOf wr (.slice ax l.length cx) l.length isByte) (fun i _ => l.length - (intOf i).toNat)
  case atStart => exact ⟨0, Nat.zero_le _, rfl, KR, hR5⟩
  case round =>
    clear KR hR5
    obtain ⟨j, hj, rfl, K6, hR6⟩ := hrel
    by_cases hlt : j < l.length
    · have hlt3 : (j : Int) < (l.length : Int) := by omega
      obtain ⟨a', cap', hv, -, -, hc⟩ := id hR6
      injection hv with e1 e2 e3
      subst e1 e3
      obtain ⟨g, rfl, hcc⟩ := hc (by omega)
      obtain ⟨z, ⟨x, hx0, hx1, rfl⟩, hcz, hfz⟩ := hcc j hlt
      have hS := fun (y : Int) (h0 : 0 ≤ y) (h1 : y ≤ 255) => hR6.set (g := g) (j := j) rfl hlt (z := .int .u8 y) ⟨y, h0, h1, rfl⟩
      have hK := fun (y : Int) => K6.setCell (p := ⟨g, j, none⟩) (.inl (by simp [Value.ownBlock])) (.int .u8 y)
      clear hc hcc hR6 K6
      go_wp2_with fail
      exact ⟨⟨j + 1, by omega, by go_num, hK _, hS _ (by omega) (by omega)⟩, by simp [intOf]; omega⟩
    · have hlt3 : ¬ (j : Int) < (l.length : Int) := by omega
      have hm : ∀ g, g ∈ (Value.slice ax l.length cx).ownBlock.toList → g ≠ p ∧ v5.ownBlock ≠ some g ∧ w.heap.size ≤ g := fun g hg => X5.out g (by rw [Option.mem_toList] at hg; exact hg)
      have hS6 : IsS wr p v5 (1, l) q false := S5.out.kept K6 (fun h => (hm p h).1 rfl) (fun g hg h => (hm g h).2.1 hg)
      have j6 : Kept [] w wr := KK5.out.trans K6 (fun x hx => .inr (hm x hx).2.2)
      have hpy := pay_any hS6
      have S6 := Hid.mk hS6
      have J6 := Hid.mk j6
      clear hR6 K6 hm S5 KK5 hS6 j6 X5
      go_wp2_with fail
      refine hpy.mono ?_
      rintro e w7 ⟨v7, rfl, hO7, k7, f7⟩
      obtain ⟨ay, cy, hv7⟩ := hO7.form
      subst hv7
      have hO7' : Owns 5 w7 (.slice ay l.length cy) l := hO7
      have hR7 := RowOf.bytes hO7'
      have hx7 : ∀ g, (Value.slice ay l.length cy).ownBlock = some g → g ≠ p ∧ v5.ownBlock ≠ some g ∧ w.heap.size ≤ g := fun g hg => ⟨fun h => by have := f7 g hg; have := S6.out.lt; omega, fun h => by have := f7 g hg; have := S6.out.vlt g h; omega, Nat.le_trans J6.out.size (f7 g hg)⟩
      have X7 := Hid.mk hx7
      have S7 : Hid (IsS w7 p v5 (1, l) q false) := S6.out.kept k7 (by simp) (by simp)
      have J7 : Hid (Kept [] w w7) := J6.out.trans k7 (by simp)
      have KR7 : Kept (Value.slice ay l.length cy).ownBlock.toList w7 w7 := Kept.refl _ _
      obtain ⟨ax7, cx7, hv, hb3, hb4, -⟩ := id hR7
      injection hv with e1 e2 e3
      subst e1 e3
      clear hO7 hO7' hpy S6 J6 k7 f7 hx7 e2 hb1 hb2
      go_wp2_with fail
      go_loopw [51] (fun i wr => ∃ j : Nat, j ≤ l.length ∧ i = .int .i64 (j : Int) ∧ Kept (Value.slice ay l.length cy).ownBlock.toList w7 wr ∧ RowOf wr (.slice ay l.length cy) l.length isByte) (fun i _ => l.length - (intOf i).toNat)
      case atStart => exact ⟨0, Nat.zero_le _, rfl, KR7, hR7⟩
      case round =>
        clear KR7 hR7
        obtain ⟨j, hj, rfl, K8, hR8⟩ := hrel
        by_cases hlt : j < l.length
        · have hlt3 : (j : Int) < (l.length : Int) := by omega
          obtain ⟨a', cap', hv, -, -, hc⟩ := id hR8
          injection hv with e1 e2 e3
          subst e1 e3
          obtain ⟨g, rfl, hcc⟩ := hc (by omega)
          obtain ⟨z, ⟨x, hx0, hx1, rfl⟩, hcz, hfz⟩ := hcc j hlt
          have hS := fun (y : Int) (h0 : 0 ≤ y) (h1 : y ≤ 255) => hR8.set (g := g) (j := j) rfl hlt (z := .int .u8 y) ⟨y, h0, h1, rfl⟩
          have hK := fun (y : Int) => K8.setCell (p := ⟨g, j, none⟩) (.inl (by simp [Value.ownBlock])) (.int .u8 y)
          clear hc hcc hR8 K8
          go_wp2_with fail
          exact ⟨⟨j + 1, by omega, by go_num, hK _, hS _ (by omega) (by omega)⟩, by simp [intOf]; omega⟩
        · have hlt3 : ¬ (j : Int) < (l.length : Int) := by omega
          have hm : ∀ g, g ∈ (Value.slice ay l.length cy).ownBlock.toList → g ≠ p ∧ v5.ownBlock ≠ some g ∧ w.heap.size ≤ g := fun g hg => X7.out g (by rw [Option.mem_toList] at hg; exact hg)
          have hS8 : IsS wr p v5 (1, l) q false := S7.out.kept K8 (fun h => (hm p h).1 rfl) (fun g hg h => (hm g h).2.1 hg)
          have j8 : Kept [] w wr := J7.out.trans K8 (fun x hx => .inr (hm x hx).2.2)
          have kd : Kept [] wr wr.drew := (Kept.refl [] wr).drew
          have hpy : Calls Try.prog 11 #[.pointer (some ⟨p, 0, none⟩)] wr.drew fun e w' => ∃ v, e = .returned v ∧ (convert 32 9 v).run Try.prog w' = .ok (.string ⟨l.toArray⟩) w' ∧ (convert 32 9 (.slice a l.length cap)).run Try.prog w' = .ok (.string ⟨l.toArray⟩) w' ∧ Kept [] w w' :=
            (pay_any (hS8.kept kd (by simp) (by simp))).mono fun e w' ⟨v, he, hO, k, f⟩ => ⟨v, he, str34 _ _ w' hO.reads, str34 _ _ w' (hHr.out.kept ((j8.trans kd (by simp)).trans k (by simp)) (by simp)), (j8.trans kd (by simp)).trans k (by simp)⟩
          have hz1 := str34 _ _ wr.drew (hHr.out.kept (j8.trans kd (by simp)) (by simp))
          generalize (⟨l.toArray⟩ : ByteArray) = T at hpy hz1
          clear hR8 K8 hm S7 J7 hS8 j8 X7 kd hHr
          go_wp2_with fail
          go_region_held (fun w' => (convert 32 9 (.slice a l.length cap)).run Try.prog w' = .ok (.string T) w') (assumption) (first | (go_at_call 10; refine (gen_nil _).mono ?_; rintro e w' ⟨rfl, rfl⟩) | (go_at_call_of 11 (Value.pointer none); refine (pay_nil _).mono ?_; rintro e w' ⟨rfl, rfl⟩) | (go_at_call 12; refine (save_nil _ _).mono ?_; rintro e w' ⟨rfl, rfl⟩) | (go_at_call 11; refine hpy.mono ?_; rintro e w9 ⟨v9, rfl, hz2, hz3, K9⟩))
          all_goals
            go_wp2
            go_ret
            exact ⟨rfl, K9⟩

theorem nil_any (v : Value) (l : List UInt8) (w : World) (hr : Reads w v l) : Calls Try.prog 6 #[v] w fun e w' => e = .returned (.bool true) ∧ Kept [] w w' := by
  have hr' := hr
  obtain ⟨a, cap, rfl, _⟩ := hr
  by_cases h : l.length ≤ 200
  · exact nil_walk a cap l w hr' h
  · exact nil_long a l.length cap w (by omega)

end Go.Proofs.Ythjdlbejfaejkaa
