/-
  SumSeals and SumOpens: the walks.
-/
import Derived.Test.YtapbeemgkbimcaaAwake
namespace Go.Proofs.Ytapbeemgkbimcaa
open Go.RowKit
set_option linter.unusedVariables false

set_option maxRecDepth 100000 in
set_option maxHeartbeats 400000 in
theorem seals_long (x y : Int) (a : Option Addr) (n cap : Nat) (w : World) (hn : 242 < n) : Calls Try.prog 4 #[.int .u8 x, .int .u32 y, .slice a n cap] w fun e w' => e = .returned (.bool true) ∧ Kept [] w w' := by
  go_enter Try.func4, Try.ntmps4
  go_wp2_with fail
  refine (awake_any w).mono ?_
  rintro e w1 ⟨rfl, hk⟩
  have s1 := string_of (P := Try.prog) 22 5 Try.underlying22 9 Try.underlying5 Try.underlying9 _ [] w1 (Reads.nil w1)
  go_wp2_with fail
  refine (seal_long x y a n cap w1 hn).mono ?_
  rintro e w2 ⟨rfl, rfl⟩
  go_wp2_with fail
  refine (refseal_long x y a n cap w1 hn).mono ?_
  rintro e w2 ⟨rfl, rfl⟩
  go_wp2_with fail
  go_ret
  exact ⟨rfl, hk⟩

set_option maxRecDepth 100000 in
set_option maxHeartbeats 400000 in
theorem seals_fit (kind : UInt8) (place : Nat) (v : Value) (p : List UInt8) (w : World) (hp : place < 4294967296) (hl : p.length ≤ 242) (hr : Reads w v p) : Calls Try.prog 4 #[.int .u8 (kind.toNat : Int), .int .u32 (place : Int), v] w fun e w' => e = .returned (.bool true) ∧ Kept [] w w' := by
  have Hl : Hid (p.length ≤ 242) := hl
  clear hl
  go_enter Try.func4, Try.ntmps4
  go_wp2_with fail
  refine (awake_any w).mono ?_
  rintro e w1 ⟨rfl, hk⟩
  have hr1 := hr.kept hk (by simp)
  clear hr
  go_wp2_with fail
  refine (seal_any kind place v p w1 hp Hl.out hr1).mono ?_
  rintro e w2 ⟨v2, rfl, hS⟩
  have hr2 := hr1.kept hS.kept (by simp)
  have hb2 := hS.reads
  have hk2 := hk.trans hS.kept (by simp)
  clear hS hr1
  go_wp2_with fail
  refine (refseal_any kind place v p w2 hp Hl.out hr2).mono ?_
  rintro e w3 ⟨v3, rfl, hc3, hk3⟩
  have hb3 := hb2.kept hk3 (by simp)
  have hk4 := hk2.trans hk3 (by simp)
  have s1 := string_of (P := Try.prog) 22 5 Try.underlying22 9 Try.underlying5 Try.underlying9 _ _ w3 hb3
  have s2 := string_of (P := Try.prog) 22 5 Try.underlying22 9 Try.underlying5 Try.underlying9 _ _ w3 hc3
  generalize (⟨(sealedL kind place p).toArray⟩ : ByteArray) = s at s1 s2
  clear hr2 hb2 hk2 hc3 hk3 hb3
  go_wp2_with fail
  go_ret
  exact ⟨rfl, hk4⟩

theorem u8_of (k : Nat) (hk : k ≤ 255) : ∃ kind : UInt8, (k : Int) = (kind.toNat : Int) := ⟨UInt8.ofNat k, by simp; omega⟩

theorem seals_walk (k place : Nat) (v : Value) (p : List UInt8) (w : World) (hk : k ≤ 255) (hp : place ≤ 4294967295) (hr : Reads w v p) : Calls Try.prog 4 #[.int .u8 (k : Int), .int .u32 (place : Int), v] w fun e w' => e = .returned (.bool true) ∧ Kept [] w w' := by
  by_cases hl : p.length ≤ 242
  · obtain ⟨kind, e⟩ := u8_of k hk
    rw [e]
    exact seals_fit kind place v p w (by omega) hl hr
  · obtain ⟨a, cap, rfl, _⟩ := hr
    exact seals_long _ _ a p.length cap w (by omega)

set_option maxRecDepth 100000 in
set_option maxHeartbeats 400000 in
theorem opens_any (kind : UInt8) (place : Nat) (v : Value) (B : List UInt8) (w : World) (hp : place < 4294967296) (hr : Reads w v B) : Calls Try.prog 5 #[.int .u8 (kind.toNat : Int), .int .u32 (place : Int), v] w fun e w' => e = .returned (.bool true) ∧ Kept [] w w' := by
  go_enter Try.func5, Try.ntmps5
  go_wp2_with fail
  refine (awake_any w).mono ?_
  rintro e w1 ⟨rfl, hk⟩
  have hr1 := hr.kept hk (by simp)
  clear hr
  go_wp2_with fail
  refine (open_any kind place v B w1 hp hr1).mono ?_
  rintro e w2 ⟨v2, ok, q, rfl, hq, hk2, hor⟩
  have hr2 := hr1.kept hk2 (by simp)
  have hk3 := hk.trans hk2 (by simp)
  have HO : Hid (ok = true ∧ Fits kind place B ∧ q = payloadOf B ∨ ok = false ∧ ¬ Fits kind place B ∧ q = []) := hor
  clear hor hk hk2 hr1
  go_wp2_with fail
  refine (refopen_any kind place v B w2 hp hr2).mono ?_
  rintro e w3 ⟨v3, ok3, q3, rfl, hq3, hk4, hor3⟩
  have hb3 := hq.kept hk4 (by simp)
  have hk5 := hk3.trans hk4 (by simp)
  obtain ⟨rfl, rfl⟩ : ok = ok3 ∧ q = q3 := by
    rcases HO.out with ⟨h1, h2, h3⟩ | ⟨h1, h2, h3⟩ <;> rcases hor3 with ⟨g1, g2, g3⟩ | ⟨g1, g2, g3⟩
    · exact ⟨h1.trans g1.symm, h3.trans g3.symm⟩
    · exact absurd h2 g2
    · exact absurd g2 h2
    · exact ⟨h1.trans g1.symm, h3.trans g3.symm⟩
  have s1 := string_of (P := Try.prog) 22 5 Try.underlying22 9 Try.underlying5 Try.underlying9 _ _ w3 hb3
  have s2 := string_of (P := Try.prog) 22 5 Try.underlying22 9 Try.underlying5 Try.underlying9 _ _ w3 hq3
  generalize (⟨q.toArray⟩ : ByteArray) = s at s1 s2
  clear hr2 HO hor3 hq hq3 hb3 hk3 hk4
  go_wp2_with fail
  go_ret
  exact ⟨rfl, hk5⟩

theorem opens_walk (k place : Nat) (v : Value) (B : List UInt8) (w : World) (hk : k ≤ 255) (hp : place ≤ 4294967295) (hr : Reads w v B) : Calls Try.prog 5 #[.int .u8 (k : Int), .int .u32 (place : Int), v] w fun e w' => e = .returned (.bool true) ∧ Kept [] w w' := by
  obtain ⟨kind, e⟩ := u8_of k hk
  rw [e]
  exact opens_any kind place v B w (by omega) hr

end Go.Proofs.Ytapbeemgkbimcaa
