/-
  Seal and Open, as the program has them.
-/
import Derived.Test.YtilelklcfgemoaaSCut
namespace Go.Proofs.Ytilelklcfgemoaa
open Go.RowKit
set_option linter.unusedVariables false
/-- A sealed block in new memory. -/
def Sealed (w w' : World) (v : Value) (l : List UInt8) : Prop := ∃ g, v = .slice (some ⟨g, 0, none⟩) 256 256 ∧ w.heap.size ≤ g ∧ Row w' g l ∧ l.length = 256 ∧ Kept [] w w'
theorem Sealed.reads {w w' : World} {v : Value} {l : List UInt8} (h : Sealed w w' v l) : Reads w' v l := by
  obtain ⟨g, rfl, _, hR, hl, _⟩ := h
  exact hR.reads_all hl
theorem sealed_any (kind : UInt8) (place : Nat) (v : Value) (p : List UInt8) (w : World) (hp : place < 4294967296) (hl : p.length ≤ 242) (hr : Reads w v p) :
    Calls Try.prog 73 #[.int .u8 (kind.toNat : Int), .int .u32 (place : Int), v] w fun e w' => ∃ v', e = .returned v' ∧ Sealed w w' v' (sealedL kind place p) := by
  have hr' := hr
  obtain ⟨a, cap, rfl, h2, h3, h4, h5⟩ := hr
  exact (sealed_walk kind place a p.length cap p w hp hl h2 rfl hr').mono fun e w' ⟨g, he, h1, h2, h3⟩ => ⟨_, he, g, rfl, h1, h2, sealedL_length kind place p hl, h3⟩
set_option maxRecDepth 100000 in
set_option maxHeartbeats 400000 in
theorem seal_long (x y : Int) (a : Option Addr) (n cap : Nat) (w : World) (hn : 242 < n) : Calls Try.prog 59 #[.int .u8 x, .int .u32 y, .slice a n cap] w fun e w' => e = .returned (.tuple #[.slice none 0 0, .int .i64 4]) ∧ w = w' := by
  go_enter Try.func59, Try.ntmps59
  go_wp2
  go_ret2
  exact ⟨rfl, rfl⟩
set_option maxRecDepth 100000 in
set_option maxHeartbeats 400000 in
theorem seal_walk (kind : UInt8) (place : Nat) (a : Option Addr) (n cap : Nat) (L : List UInt8) (w : World) (hn : n ≤ 242) (hs : Calls Try.prog 73 #[.int .u8 (kind.toNat : Int), .int .u32 (place : Int), .slice a n cap] w fun e w' => ∃ v', e = .returned v' ∧ Sealed w w' v' L) :
    Calls Try.prog 59 #[.int .u8 (kind.toNat : Int), .int .u32 (place : Int), .slice a n cap] w fun e w' => ∃ v', e = .returned (.tuple #[v', .int .i64 0]) ∧ Sealed w w' v' L := by
  go_enter Try.func59, Try.ntmps59
  go_wp2_with fail
  refine hs.mono ?_
  rintro e w1 ⟨v1, rfl, hS⟩
  go_wp2_with fail
  go_ret2
  exact ⟨v1, rfl, hS⟩
/-- Seal, of a payload that fits. -/
theorem seal_any (kind : UInt8) (place : Nat) (v : Value) (p : List UInt8) (w : World) (hp : place < 4294967296) (hl : p.length ≤ 242) (hr : Reads w v p) :
    Calls Try.prog 59 #[.int .u8 (kind.toNat : Int), .int .u32 (place : Int), v] w fun e w' => ∃ v', e = .returned (.tuple #[v', .int .i64 0]) ∧ Sealed w w' v' (sealedL kind place p) := by
  have hs := sealed_any kind place v p w hp hl hr
  obtain ⟨a, cap, rfl, h2, h3, h4, h5⟩ := hr
  exact seal_walk kind place a p.length cap _ w hl hs
set_option maxRecDepth 100000 in
set_option maxHeartbeats 400000 in
theorem open_len (x y : Int) (a : Option Addr) (n cap : Nat) (w : World) (hn : ((n : Int) != 256) = true) : Calls Try.prog 61 #[.int .u8 x, .int .u32 y, .slice a n cap] w fun e w' => e = .returned (.tuple #[.slice none 0 0, .bool false]) ∧ w = w' := by
  go_enter Try.func61, Try.ntmps61
  go_wp2
  go_ret2
  exact ⟨rfl, rfl⟩
set_option maxRecDepth 100000 in
set_option maxHeartbeats 400000 in
theorem open_over (x y : Int) (b o cap k : Nat) (w : World) (hcap : 256 ≤ cap) (hk : 242 < k) (hc : w.cell? ⟨b, o + 13, none⟩ = some (.int .u8 (k : Int))) : Calls Try.prog 61 #[.int .u8 x, .int .u32 y, .slice (some ⟨b, o, none⟩) 256 cap] w fun e w' => e = .returned (.tuple #[.slice none 0 0, .bool false]) ∧ w = w' := by
  go_enter Try.func61, Try.ntmps61
  go_wp2
  go_ret2
  exact ⟨rfl, rfl⟩
set_option maxRecDepth 100000 in
set_option maxHeartbeats 400000 in
theorem open_no (kind : UInt8) (place b o cap k : Nat) (B L p : List UInt8) (w : World) (hcap : 256 ≤ cap) (hk : k ≤ 242) (hc : w.cell? ⟨b, o + 13, none⟩ = some (.int .u8 (k : Int))) (hB : Reads w (.slice (some ⟨b, o, none⟩) 256 cap) B)
    (hs : Calls Try.prog 73 #[.int .u8 (kind.toNat : Int), .int .u32 (place : Int), .slice (some ⟨b, o + 14, none⟩) k (cap - 14)] w fun e w' => ∃ v', e = .returned v' ∧ Sealed w w' v' L) (hne : B ≠ L) :
    Calls Try.prog 61 #[.int .u8 (kind.toNat : Int), .int .u32 (place : Int), .slice (some ⟨b, o, none⟩) 256 cap] w fun e w' => e = .returned (.tuple #[.slice none 0 0, .bool false]) ∧ Kept [] w w' := by
  have hsl := slice_mid b o 256 cap 14 k (by omega) (by omega)
  go_enter Try.func61, Try.ntmps61
  go_wp2_with fail
  refine hs.mono ?_
  rintro e w1 ⟨v1, rfl, hS⟩
  have hK : Kept [] w w1 := by obtain ⟨_, _, _, _, _, h⟩ := hS; exact h
  have hE := equal_no _ _ B L w1 (hB.kept hK (by simp)) hS.reads hne
  clear hS hB hne
  go_wp2_with fail
  refine hE.mono ?_
  rintro e w2 ⟨rfl, rfl⟩
  go_wp2_with fail
  go_ret2
  exact ⟨rfl, hK⟩
set_option maxRecDepth 100000 in
set_option maxHeartbeats 400000 in
theorem open_yes (kind : UInt8) (place b o cap k : Nat) (B p : List UInt8) (w : World) (hcap : 256 ≤ cap) (hk : k ≤ 242) (hpl : p.length ≤ 242) (hc : w.cell? ⟨b, o + 13, none⟩ = some (.int .u8 (k : Int))) (hB : Reads w (.slice (some ⟨b, o, none⟩) 256 cap) B)
    (hp : Reads w (.slice (some ⟨b, o + 14, none⟩) k (cap - 14)) p)
    (hs : Calls Try.prog 73 #[.int .u8 (kind.toNat : Int), .int .u32 (place : Int), .slice (some ⟨b, o + 14, none⟩) k (cap - 14)] w fun e w' => ∃ v', e = .returned v' ∧ Sealed w w' v' B) :
    Calls Try.prog 61 #[.int .u8 (kind.toNat : Int), .int .u32 (place : Int), .slice (some ⟨b, o, none⟩) 256 cap] w fun e w' => ∃ v', e = .returned (.tuple #[v', .bool true]) ∧ Reads w' v' p ∧ Kept [] w w' ∧ Fresh w v' := by
  have hsl := slice_mid b o 256 cap 14 k (by omega) (by omega)
  go_enter Try.func61, Try.ntmps61
  go_wp2_with fail
  refine hs.mono ?_
  rintro e w1 ⟨v1, rfl, hS⟩
  have hK : Kept [] w w1 := by obtain ⟨_, _, _, _, _, h⟩ := hS; exact h
  have hE := equal_yes _ _ B w1 (hB.kept hK (by simp)) hS.reads
  have hC := clone_any _ p w1 (hp.kept hK (by simp)) (by omega)
  clear hS hB hp
  go_wp2_with fail
  refine hE.mono ?_
  rintro e w2 ⟨rfl, rfl⟩
  go_wp2_with fail
  refine hC.mono ?_
  rintro e w3 ⟨v3, rfl, hO, hk3, hF3⟩
  go_wp2_with fail
  go_ret2
  exact ⟨v3, rfl, hO.reads, hK.trans hk3 (by simp), fun g hg => Nat.le_trans hK.size (hF3 g hg)⟩
end Go.Proofs.Ytilelklcfgemoaa
