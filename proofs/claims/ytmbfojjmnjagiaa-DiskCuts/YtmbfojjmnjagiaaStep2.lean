/-
  step: the other calls.
-/
import Derived.Test.YtmbfojjmnjagiaaStep
namespace Go.Proofs.Ytmbfojjmnjagiaa
open Go.RowKit
set_option linter.unusedVariables false

/-- SetFuse on both. -/
theorem fuse_both {w : World} {H : List Nat} {p q : Nat} {s : St} (n : Int) (h1 : -9223372036854775808 ≤ n) (h2 : n < 9223372036854775808) (hT : Two w H p q s) :
    Calls Try.prog 15 #[.pointer (some ⟨p, 0, none⟩), .int .i64 n] w fun e wa => e = .returned (.tuple #[]) ∧ Kept H w wa ∧ Calls Try.prog 26 #[.pointer (some ⟨q, 0, none⟩), .int .i64 n] wa fun e wb => e = .returned (.tuple #[]) ∧ Two wb H p q (fuseS s n) ∧ Kept H w wb := by
  obtain ⟨F, G, rfl, hD, hF, h3⟩ := hT
  refine (setfuse_any hD n h1 h2).mono fun e wa ⟨he, hDa, ka⟩ => ⟨he, ka.mono (fun x hx => .inl (by simp [hx])), ?_⟩
  refine (fsetfuse_any (hF.kept ka (fun x hx hm => h3 x hm hx)) n h1 h2).mono fun e wb ⟨he, hFb, kb⟩ => ⟨he, ⟨F, G, rfl, hDa.kept kb h3, hFb, h3⟩, ?_⟩
  exact (ka.mono (T := F ++ G) (fun x hx => .inl (by simp [hx]))).trans kb (fun x hx => .inl (by simp [hx]))
/-- Restart of both. -/
theorem restart_both {w : World} {H : List Nat} {p q : Nat} {s : St} (hT : Two w H p q s) :
    Calls Try.prog 21 #[.pointer (some ⟨p, 0, none⟩)] w fun e wa => e = .returned (.tuple #[]) ∧ Calls Try.prog 27 #[.pointer (some ⟨q, 0, none⟩)] wa fun e wb => e = .returned (.tuple #[]) ∧ Two wb H p q (restS s) ∧ Kept H w wb := by
  obtain ⟨F, G, rfl, hD, hF, h3⟩ := hT
  refine (restart_any hD).mono fun e wa ⟨he, hDa, ka⟩ => ⟨he, ?_⟩
  refine (frestart_any (hF.kept ka (fun x hx hm => h3 x hm hx))).mono fun e wb ⟨he, hFb, kb⟩ => ⟨he, ⟨F, G, rfl, hDa.kept kb h3, hFb, h3⟩, ?_⟩
  exact (ka.mono (T := F ++ G) (fun x hx => .inl (by simp [hx]))).trans kb (fun x hx => .inl (by simp [hx]))

set_option maxRecDepth 100000 in
set_option maxHeartbeats 1000000 in
theorem step_2 {w : World} {H : List Nat} {p q : Nat} {s : St} (i : Int) (b : UInt8) (odd : Bool) (hT : Two w H p q s) (hb : s.ws.length ≤ 1000) :
    Calls Try.prog 11 #[.pointer (some ⟨p, 0, none⟩), .pointer (some ⟨q, 0, none⟩), .agg #[.int .i64 2, .int .i64 i, .int .u8 (b.toNat : Int), .bool odd]] w fun e w' => e = .returned (.bool true) ∧ Kept [] w w' := by
  have k0 : Kept [] w (w.alloc (.cells #[.int .i64 2, .int .i64 i, .int .u8 (b.toNat : Int), .bool odd] 30)) := (Kept.refl [] w).alloc _
  have hO : OpAt (w.alloc (.cells #[.int .i64 2, .int .i64 i, .int .u8 (b.toNat : Int), .bool odd] 30)) w.heap.size 2 i b odd := heap_alloc_new w _
  have h1 := reads_both (hT.kept k0 (by simp)) hb i
  generalize rdE s i = E at h1
  generalize (⟨(rdL s i).toArray⟩ : ByteArray) = S at h1
  obtain ⟨c0, c1, c2, c3⟩ := hO.cells
  clear hT hb
  go_enter Try.func11, Try.ntmps11
  go_wp2_with fail
  generalize w.alloc (.cells #[.int .i64 2, .int .i64 i, .int .u8 (b.toNat : Int), .bool odd] 30) = w0 at c0 c1 c2 c3 h1 k0 hO
  refine h1.mono ?_
  rintro e wa ⟨v, rfl, k1, h2⟩
  obtain ⟨d0, d1, d2, d3⟩ := (hO.kept k1 (by simp)).cells
  clear h1 c0 c1 c2 c3
  go_wp2_with fail
  refine h2.mono ?_
  rintro e wb ⟨v', rfl, s1, s2, k2⟩
  have hK := k0.trans k2 (by simp)
  clear h2 d0 d1 d2 d3 hO k1
  go_wp2
  go_ret
  exact ⟨rfl, hK⟩

set_option maxRecDepth 100000 in
set_option maxHeartbeats 1000000 in
theorem step_3 {w : World} {H : List Nat} {p q : Nat} {s : St} (i : Int) (b : UInt8) (odd : Bool) (hT : Two w H p q s) (hi1 : -9223372036854775808 ≤ i) (hi2 : i < 9223372036854775808) :
    Calls Try.prog 11 #[.pointer (some ⟨p, 0, none⟩), .pointer (some ⟨q, 0, none⟩), .agg #[.int .i64 3, .int .i64 i, .int .u8 (b.toNat : Int), .bool odd]] w fun e w' => e = .returned (.bool true) ∧ Two w' H p q (fuseS s i) ∧ Kept H w w' := by
  have k0 : Kept [] w (w.alloc (.cells #[.int .i64 3, .int .i64 i, .int .u8 (b.toNat : Int), .bool odd] 30)) := (Kept.refl [] w).alloc _
  have hO : OpAt (w.alloc (.cells #[.int .i64 3, .int .i64 i, .int .u8 (b.toNat : Int), .bool odd] 30)) w.heap.size 3 i b odd := heap_alloc_new w _
  have h1 := fuse_both i hi1 hi2 (hT.kept k0 (by simp))
  have hrH : w.heap.size ∉ H := fun h => by have := hT.lt _ h; omega
  generalize fuseS s i = s' at h1
  obtain ⟨c0, c1, c2, c3⟩ := hO.cells
  clear hT
  go_enter Try.func11, Try.ntmps11
  go_wp2_with fail
  generalize w.alloc (.cells #[.int .i64 3, .int .i64 i, .int .u8 (b.toNat : Int), .bool odd] 30) = w0 at c0 c1 c2 c3 h1 k0 hO
  refine h1.mono ?_
  rintro e wa ⟨rfl, k1, h2⟩
  obtain ⟨d0, d1, d2, d3⟩ := (hO.kept k1 hrH).cells
  clear h1 c0 c1 c2 c3
  go_wp2_with fail
  refine h2.mono ?_
  rintro e wb ⟨rfl, hTb, k2⟩
  have hK : Kept H w wb := (k0.mono (by simp)).trans k2 (fun x hx => .inl hx)
  clear h2 d0 d1 d2 d3 hO k1
  go_wp2
  go_ret
  exact ⟨rfl, hTb, hK⟩

set_option maxRecDepth 100000 in
set_option maxHeartbeats 1000000 in
theorem step_4 {w : World} {H : List Nat} {p q : Nat} {s : St} (i : Int) (b : UInt8) (odd : Bool) (hT : Two w H p q s) :
    Calls Try.prog 11 #[.pointer (some ⟨p, 0, none⟩), .pointer (some ⟨q, 0, none⟩), .agg #[.int .i64 4, .int .i64 i, .int .u8 (b.toNat : Int), .bool odd]] w fun e w' => e = .returned (.bool true) ∧ Two w' H p q (restS s) ∧ Kept H w w' := by
  have k0 : Kept [] w (w.alloc (.cells #[.int .i64 4, .int .i64 i, .int .u8 (b.toNat : Int), .bool odd] 30)) := (Kept.refl [] w).alloc _
  have hO : OpAt (w.alloc (.cells #[.int .i64 4, .int .i64 i, .int .u8 (b.toNat : Int), .bool odd] 30)) w.heap.size 4 i b odd := heap_alloc_new w _
  have h1 := restart_both (hT.kept k0 (by simp))
  generalize restS s = s' at h1
  obtain ⟨c0, c1, c2, c3⟩ := hO.cells
  clear hT
  go_enter Try.func11, Try.ntmps11
  go_wp2_with fail
  generalize w.alloc (.cells #[.int .i64 4, .int .i64 i, .int .u8 (b.toNat : Int), .bool odd] 30) = w0 at c0 c1 c2 c3 h1 k0 hO
  refine h1.mono ?_
  rintro e wa ⟨rfl, h2⟩
  clear h1 c0 c1 c2 c3
  go_wp2_with fail
  refine h2.mono ?_
  rintro e wb ⟨rfl, hTb, k2⟩
  have hK : Kept H w wb := (k0.mono (by simp)).trans k2 (fun x hx => .inl hx)
  clear h2 hO
  go_wp2
  go_ret
  exact ⟨rfl, hTb, hK⟩

set_option maxRecDepth 100000 in
set_option maxHeartbeats 1000000 in
theorem step_5 {w : World} {H : List Nat} {p q : Nat} {s : St} (i : Int) (b : UInt8) (odd : Bool) (hT : Two w H p q s) :
    Calls Try.prog 11 #[.pointer (some ⟨p, 0, none⟩), .pointer (some ⟨q, 0, none⟩), .agg #[.int .i64 5, .int .i64 i, .int .u8 (b.toNat : Int), .bool odd]] w fun e w' => e = .returned (.bool true) ∧ Kept [] w w' := by
  have k0 : Kept [] w (w.alloc (.cells #[.int .i64 5, .int .i64 i, .int .u8 (b.toNat : Int), .bool odd] 30)) := (Kept.refl [] w).alloc _
  have hO : OpAt (w.alloc (.cells #[.int .i64 5, .int .i64 i, .int .u8 (b.toNat : Int), .bool odd] 30)) w.heap.size 5 i b odd := heap_alloc_new w _
  have hTd := hT.kept k0.drew (by simp)
  obtain ⟨F, G, _, h1, h2, _⟩ := hTd
  have hA := written_any h1 i
  have hB := fwritten_any h2 i
  have hK := k0.drew
  have hS0 := hO.cells
  have S0 : OpS w.heap.size 5 i b odd (w.alloc (.cells #[.int .i64 5, .int .i64 i, .int .u8 (b.toNat : Int), .bool odd] 30)).drew := hS0
  generalize wnA s i = E at hA hB
  obtain ⟨c0, c1, c2, c3⟩ := hS0
  clear hT h1 h2 hO k0
  go_enter Try.func11, Try.ntmps11
  go_wp2_with fail
  generalize w.alloc (.cells #[.int .i64 5, .int .i64 i, .int .u8 (b.toNat : Int), .bool odd] 30) = w0 at c0 c1 c2 c3 S0 hA hB hK
  go_region_held3 (fun w' => w'.cell? ⟨w.heap.size, 0, none⟩ = some (.int .i64 5) ∧ w'.cell? ⟨w.heap.size, 1, none⟩ = some (.int .i64 i) ∧ w'.cell? ⟨w.heap.size, 2, none⟩ = some (.int .u8 (b.toNat : Int)) ∧ w'.cell? ⟨w.heap.size, 3, none⟩ = some (.bool odd)) (exact S0) (first | (go_at_call 23; refine hA.mono ?_; rintro e wa ⟨rfl, rfl⟩) | (go_at_call 28; refine hB.mono ?_; rintro e wa ⟨rfl, rfl⟩))
  all_goals
    go_wp2
    go_ret
    exact ⟨rfl, hK⟩

set_option maxRecDepth 100000 in
set_option maxHeartbeats 1000000 in
theorem step_0 {w : World} {p q : Nat} (kd i : Int) (b : UInt8) (odd : Bool) (h1 : kd ≠ 1) (h2 : kd ≠ 2) (h3 : kd ≠ 3) (h4 : kd ≠ 4) (h5 : kd ≠ 5) :
    Calls Try.prog 11 #[.pointer (some ⟨p, 0, none⟩), .pointer (some ⟨q, 0, none⟩), .agg #[.int .i64 kd, .int .i64 i, .int .u8 (b.toNat : Int), .bool odd]] w fun e w' => e = .returned (.bool true) ∧ Kept [] w w' := by
  have k0 : Kept [] w (w.alloc (.cells #[.int .i64 kd, .int .i64 i, .int .u8 (b.toNat : Int), .bool odd] 30)) := (Kept.refl [] w).alloc _
  have e1 : (kd == 1) = false := by simpa using h1
  have e2 : (kd == 2) = false := by simpa using h2
  have e3 : (kd == 3) = false := by simpa using h3
  have e4 : (kd == 4) = false := by simpa using h4
  have e5 : (kd == 5) = false := by simpa using h5
  clear h1 h2 h3 h4 h5
  go_enter Try.func11, Try.ntmps11
  go_wp2
  go_ret
  exact ⟨rfl, k0⟩

/-- step, whatever the call. -/
theorem step_any {w : World} {H : List Nat} {p q : Nat} {s : St} (o : OpD) (ho : o.ok) (hT : Two w H p q s) (hb : s.ws.length ≤ 1000) :
    Calls Try.prog 11 #[.pointer (some ⟨p, 0, none⟩), .pointer (some ⟨q, 0, none⟩), o.val] w fun e w' => e = .returned (.bool true) ∧ ∃ H', Two w' H' p q (stepS s o) ∧ Kept H w w' ∧ NewF w H H' := by
  obtain ⟨kd, i, b, odd⟩ := o
  obtain ⟨hi1, hi2⟩ := ho
  unfold OpD.val stepS
  dsimp only
  by_cases h1 : kd = 1
  · subst h1
    rw [if_pos rfl]
    exact step_1 i b odd hT hb
  rw [if_neg h1]
  have still : ∀ {e : Ending} {w' : World}, e = .returned (.bool true) → Kept [] w w' → (e = .returned (.bool true) ∧ ∃ H', Two w' H' p q s ∧ Kept H w w' ∧ NewF w H H') := fun he hk => ⟨he, H, hT.kept hk (by simp), hk.mono (by simp), NewF.refl w H⟩
  by_cases h3 : kd = 3
  · subst h3
    rw [if_pos rfl]
    exact (step_3 i b odd hT hi1 hi2).mono fun e w' ⟨he, a, k⟩ => ⟨he, H, a, k, NewF.refl w H⟩
  rw [if_neg h3]
  by_cases h4 : kd = 4
  · subst h4
    rw [if_pos rfl]
    exact (step_4 i b odd hT).mono fun e w' ⟨he, a, k⟩ => ⟨he, H, a, k, NewF.refl w H⟩
  rw [if_neg h4]
  by_cases h2 : kd = 2
  · subst h2
    exact (step_2 i b odd hT hb).mono fun e w' ⟨he, k⟩ => still he k
  by_cases h5 : kd = 5
  · subst h5
    exact (step_5 i b odd hT).mono fun e w' ⟨he, k⟩ => still he k
  exact (step_0 kd i b odd h1 h2 h3 h4 h5).mono fun e w' ⟨he, k⟩ => still he k

end Go.Proofs.Ytmbfojjmnjagiaa
