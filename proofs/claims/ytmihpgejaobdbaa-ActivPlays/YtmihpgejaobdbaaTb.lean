/-
  A table: New, Most, find, Has, Drop.
-/
import Derived.Test.YtmihpgejaobdbaaOr
import Derived.Test.YtmihpgejaobdbaaCy
namespace Go.Proofs.Ytmihpgejaobdbaa
set_option maxRecDepth 100000
open Go.RowKit
set_option linter.unusedVariables false
/-- A table at T that may have so many keys (m, as it is kept), which are L; its blocks F. -/
def IsT (w : World) (T : Nat) (m : Int) (L : List Ky) (F : List Nat) : Prop :=
  (w.heap[T]? = some (.cells #[.int .i64 m, .pointer none] 30 (0, 0)) ∧ L = [] ∧ F = [T]) ∨
  ∃ O M PL, w.heap[T]? = some (.cells #[.int .i64 m, Pp O] 30 (0, 0)) ∧ IsO w O M PL ∧ PL.map (·.1) = L ∧ F = T :: footO O M PL
/-- How many there may be. -/
def cp (m : Int) : Nat := (max m 1).toNat
theorem IsT.lt {w : World} {T : Nat} {m : Int} {L : List Ky} {F : List Nat} (h : IsT w T m L F) : ∀ b ∈ F, b < w.heap.size := by
  rcases h with ⟨hb, -, rfl⟩ | ⟨O, M, PL, hb, hO, -, rfl⟩
  · intro b h; rw [List.mem_singleton.1 h]; exact lt_of_block hb
  · intro b h
    rcases List.mem_cons.1 h with rfl | h
    · exact lt_of_block hb
    · exact hO.lt b h
theorem IsT.kept {S : List Nat} {w w' : World} {T : Nat} {m : Int} {L : List Ky} {F : List Nat} (h : IsT w T m L F) (k : Kept S w w') (hn : ∀ b ∈ F, b ∉ S) : IsT w' T m L F := by
  rcases h with ⟨hb, e, rfl⟩ | ⟨O, M, PL, hb, hO, e, rfl⟩
  · exact .inl ⟨k.keeps hb (hn T (by simp)), e, rfl⟩
  · exact .inr ⟨O, M, PL, k.keeps hb (hn T (by simp)), hO.kept k (fun b hb => hn b (List.mem_cons_of_mem _ hb)), e, rfl⟩
theorem IsT.keys {w : World} {T : Nat} {m : Int} {L : List Ky} {F : List Nat} (h : IsT w T m L F) : L.Nodup ∧ ∀ k ∈ L, k.length ≤ 140737488355328 := by
  rcases h with ⟨hb, rfl, rfl⟩ | ⟨O, M, PL, hb, hO, rfl, rfl⟩
  · simp
  · refine ⟨hO.mp.nodup, fun k hk => ?_⟩
    obtain ⟨x, hx, rfl⟩ := List.mem_map.1 hk
    exact hO.mp.wf x hx
theorem IsO.apartT {w : World} {T O M : Nat} {cs : Array Value} {PL : List (Ky × Nat)} (hO : IsO w O M PL) (hb : w.heap[T]? = some (.cells cs 30 (0, 0))) : T ∉ footO O M PL := by
  intro h
  simp only [footO, List.mem_cons] at h
  rcases h with rfl | rfl | h
  · obtain ⟨ds, h1, _⟩ := hO.bk
    rw [hb] at h1; injection h1 with h1; injection h1 with _ h1; cases h1
  · obtain ⟨es, c, h1⟩ := hO.mp.is
    rw [hb] at h1; cases h1
  · obtain ⟨x, hx, rfl⟩ := List.mem_map.1 h
    obtain ⟨ds, h1, _⟩ := (hO.pk x hx).1
    rw [hb] at h1; injection h1 with h1; injection h1 with _ h1; cases h1
section
variable {w : World} {T : Nat} {m : Int} {L : List Ky} {F : List Nat}
set_option maxHeartbeats 1000000 in
theorem new8 (n : Int) (w : World) : Calls Try.prog 8 #[.int .i64 n] w fun e w' => ∃ T, e = .returned (Pp T) ∧ IsT w' T (min (max n 1) 10000) [] [T] ∧ Kept [] w w' ∧ w.heap.size ≤ T := by
  go_enter Try.func8, Try.ntmps8
  go_wp2_with fail
  go_ret
  refine ⟨_, rfl, .inl ⟨heap_alloc_new w _, rfl, rfl⟩, (Kept.refl [] w).alloc _, Nat.le_refl _⟩
set_option maxHeartbeats 1000000 in
theorem most18 (h : IsT w T m L F) : Calls Try.prog 18 #[Pp T] w fun e w' => e = .returned (.int .i64 (max m 1)) ∧ w = w' := by
  have c0 : w.cell? ⟨T, 0, none⟩ = some (.int .i64 m) := by
    rcases h with ⟨hb, -, -⟩ | ⟨O, M, PL, hb, -⟩ <;> simp [World.cell?, hb]
  clear h
  go_enter Try.func18, Try.ntmps18
  go_wp2_with fail
  go_ret
  exact ⟨rfl, rfl⟩
set_option maxHeartbeats 1000000 in
theorem most18_nil (w : World) : Calls Try.prog 18 #[.pointer none] w fun e w' => e = .returned (.int .i64 0) ∧ w = w' := by
  go_enter Try.func18, Try.ntmps18
  go_wp2_with fail
  go_ret
  exact ⟨rfl, rfl⟩
set_option maxHeartbeats 1000000 in
theorem find25_nil (k : Ky) (w : World) : Calls Try.prog 25 #[.pointer none, Sv k] w fun e w' => e = .returned (.pointer none) ∧ w = w' := by
  go_enter Try.func25, Try.ntmps25
  go_wp2_with fail
  go_ret
  exact ⟨rfl, rfl⟩
set_option maxHeartbeats 1000000 in
theorem find25_new (hb : w.heap[T]? = some (.cells #[.int .i64 m, .pointer none] 30 (0, 0))) (k : Ky) : Calls Try.prog 25 #[Pp T, Sv k] w fun e w' => e = .returned (.pointer none) ∧ w = w' := by
  have c1 : w.cell? ⟨T, 1, none⟩ = some (.pointer none) := by simp [World.cell?, hb]
  go_enter Try.func25, Try.ntmps25
  go_wp2_with fail
  go_ret
  exact ⟨rfl, rfl⟩
set_option maxHeartbeats 1000000 in
theorem find25_at {O M : Nat} {PL : List (Ky × Nat)} (hb : w.heap[T]? = some (.cells #[.int .i64 m, Pp O] 30 (0, 0))) (hO : IsO w O M PL) {k : Ky} {p : Nat} (hk : (k, p) ∈ PL) : Calls Try.prog 25 #[Pp T, Sv k] w fun e w' => e = .returned (Pp p) ∧ w = w' := by
  have c1 : w.cell? ⟨T, 1, none⟩ = some (Pp O) := by simp [World.cell?, hb]
  have c2 := hO.places
  have hg := hO.mp.get hk
  clear hO
  go_enter Try.func25, Try.ntmps25
  go_wp2_with fail
  go_ret
  exact ⟨rfl, rfl⟩
set_option maxHeartbeats 1000000 in
theorem find25_not {O M : Nat} {PL : List (Ky × Nat)} (hb : w.heap[T]? = some (.cells #[.int .i64 m, Pp O] 30 (0, 0))) (hO : IsO w O M PL) {k : Ky} (hl : k.length ≤ 140737488355328) (hk : k ∉ PL.map (·.1)) : Calls Try.prog 25 #[Pp T, Sv k] w fun e w' => e = .returned (.pointer none) ∧ w = w' := by
  have c1 : w.cell? ⟨T, 1, none⟩ = some (Pp O) := by simp [World.cell?, hb]
  have c2 := hO.places
  have hg := hO.mp.get_none hl hk
  clear hO
  go_enter Try.func25, Try.ntmps25
  go_wp2_with fail
  go_ret
  exact ⟨rfl, rfl⟩
/-- find. -/
theorem find25 (h : IsT w T m L F) {k : Ky} (hl : k.length ≤ 140737488355328) : Calls Try.prog 25 #[Pp T, Sv k] w fun e w' => ∃ v, e = .returned v ∧ w = w' ∧ (k ∉ L ∧ v = .pointer none ∨ k ∈ L ∧ ∃ O M A B p, v = Pp p ∧ w.heap[T]? = some (.cells #[.int .i64 m, Pp O] 30 (0, 0)) ∧ IsO w O M (A ++ (k, p) :: B) ∧ (A ++ (k, p) :: B).map (·.1) = L ∧ F = T :: footO O M (A ++ (k, p) :: B)) := by
  rcases h with ⟨hb, rfl, rfl⟩ | ⟨O, M, PL, hb, hO, rfl, rfl⟩
  · exact (find25_new hb k).mono fun e w' ⟨h1, h2⟩ => ⟨_, h1, h2, .inl ⟨by simp, rfl⟩⟩
  · by_cases hk : k ∈ PL.map (·.1)
    · obtain ⟨x, hx, rfl⟩ := List.mem_map.1 hk
      obtain ⟨A, B, rfl⟩ := List.append_of_mem hx
      exact (find25_at hb hO hx).mono fun e w' ⟨h1, h2⟩ => ⟨_, h1, h2, .inr ⟨hk, O, M, A, B, x.2, rfl, hb, hO, rfl, rfl⟩⟩
    · exact (find25_not hb hO hl hk).mono fun e w' ⟨h1, h2⟩ => ⟨_, h1, h2, .inl ⟨hk, rfl⟩⟩
set_option maxHeartbeats 1000000 in
theorem has14_nil (k : Ky) (w : World) : Calls Try.prog 14 #[.pointer none, Sv k] w fun e w' => e = .returned (.bool false) ∧ w = w' := by
  have HF := Hid.mk (find25_nil k w)
  go_enter Try.func14, Try.ntmps14
  go_wp2_with (go_at_call 25; refine HF.out.mono ?_; rintro e w1 ⟨rfl, rfl⟩)
  go_ret
  exact ⟨rfl, rfl⟩
set_option maxHeartbeats 1000000 in
theorem has14 (h : IsT w T m L F) {k : Ky} (hl : k.length ≤ 140737488355328) : Calls Try.prog 14 #[Pp T, Sv k] w fun e w' => e = .returned (.bool (decide (k ∈ L))) ∧ w = w' := by
  have HF := Hid.mk (find25 h hl)
  clear h
  go_enter Try.func14, Try.ntmps14
  go_wp2_with fail
  refine HF.out.mono ?_
  rintro e w1 ⟨v, rfl, rfl, ⟨hk, rfl⟩ | ⟨hk, O, M, A, B, p, rfl, -⟩⟩
  · have HK := Hid.mk hk
    clear hk
    go_wp2_with fail
    go_ret
    exact ⟨by rw [decide_eq_false HK.out]; rfl, rfl⟩
  · have HK := Hid.mk hk
    clear hk
    go_wp2_with fail
    go_ret
    exact ⟨by rw [decide_eq_true HK.out]; rfl, rfl⟩
set_option maxHeartbeats 1000000 in
theorem drop12_nil (k : Ky) (w : World) : Calls Try.prog 12 #[.pointer none, Sv k] w fun e w' => e = .returned (.bool false) ∧ w = w' := by
  have HF := Hid.mk (find25_nil k w)
  go_enter Try.func12, Try.ntmps12
  go_wp2_with (go_at_call 25; refine HF.out.mono ?_; rintro e w1 ⟨rfl, rfl⟩)
  go_ret
  exact ⟨rfl, rfl⟩
theorem noT_mid {A B : List (Ky × Nat)} {k : Ky} {p : Nat} (h : ((A ++ (k, p) :: B).map (·.1)).Nodup) : noT ((A ++ (k, p) :: B).map (·.1)) k = (A ++ B).map (·.1) := by
  rw [List.map_append, List.map_cons, List.nodup_append, List.nodup_cons] at h
  rw [List.map_append, List.map_cons, noT_append, noT_eq, noT_none (fun hm => h.2.2 k hm k (by simp) rfl), noT_none h.2.1.1, List.map_append]
set_option maxHeartbeats 1000000 in
theorem drop12 (h : IsT w T m L F) {k : Ky} (hl : k.length ≤ 140737488355328) : Calls Try.prog 12 #[Pp T, Sv k] w fun e w' => e = .returned (.bool (decide (k ∈ L))) ∧ ∃ F', IsT w' T m (noT L k) F' ∧ Kept F w w' ∧ ∀ b ∈ F', b ∈ F := by
  have HH := Hid.mk h
  have HF := Hid.mk (find25 h hl)
  clear h
  go_enter Try.func12, Try.ntmps12
  go_wp2_with fail
  refine HF.out.mono ?_
  rintro e w1 ⟨v, rfl, rfl, ⟨hk, rfl⟩ | ⟨hk, O, M, A, B, p, rfl, hb, hO, rfl, rfl⟩⟩
  · have HK := Hid.mk hk
    clear hk
    go_wp2_with fail
    go_ret
    exact ⟨by rw [decide_eq_false HK.out]; rfl, F, by rw [noT_none HK.out]; exact HH.out, Kept.refl _ _, fun _ h => h⟩
  · have HK := Hid.mk hk
    have HB := Hid.mk hb
    have HO := Hid.mk hO
    have c1 : w.cell? ⟨T, 1, none⟩ = some (Pp O) := by simp [World.cell?, hb]
    clear hk hb hO HF
    go_wp2_with fail
    refine HO.out.remove.mono ?_
    rintro e w1 ⟨rfl, hO1, k1, -⟩
    have HR := Hid.mk (And.intro hO1 k1)
    clear hO1 k1 c1
    go_wp2_with fail
    go_ret
    have hT := HO.out.apartT HB.out
    refine ⟨by rw [decide_eq_true HK.out]; rfl, T :: footO O M (A ++ B), .inr ⟨O, M, A ++ B, HR.out.2.keeps HB.out hT, HR.out.1, (noT_mid HO.out.mp.nodup).symm, rfl⟩, HR.out.2.mono (fun b hb => .inl (List.mem_cons_of_mem _ hb)), fun b hb => ?_⟩
    simp only [footO, List.mem_cons, List.map_append, List.mem_append, List.map_cons] at hb ⊢
    rcases hb with h | h | h | h | h
    · exact .inl h
    · exact .inr (.inl h)
    · exact .inr (.inr (.inl h))
    · exact .inr (.inr (.inr (.inl h)))
    · exact .inr (.inr (.inr (.inr (.inr h))))
end
end Go.Proofs.Ytmihpgejaobdbaa
