/-
  lost, whatever comes of it; LogPlays, where its script is too long, or no block is its area.
-/
import Derived.Test.YtdcjaopmfccgbaaPLostA
import Derived.Test.YtdcjaopmfccgbaaPLostC
import Derived.BigQuiet
namespace Go.Proofs.Ytdcjaopmfccgbaa
open Go.RowKit
set_option linter.unusedVariables false

theorem lost_any {w wr : World} {q p r : Nat} {s : St} {fr ct ep m : Nat} {us : List (List UInt8)} {M Y : List Nat} (hP : Pl w wr q p r s fr ct ep us false M Y) (hC : Calm s m) (hm : m ≤ 20000) (kd n : Int) (vb : Value) (hvb : ∃ a k c, vb = .slice a k c) (a1 : Option Addr) (nb c1 : Nat) (l : List UInt8) (hr : Reads wr (.slice a1 nb c1) l) (hl : l.length = nb) (hX : ∀ g, (Value.slice a1 nb c1).ownBlock = some g → g ∈ Y) (hnb : nb ≤ 4000) (hep : ep < 18446744073709551615) :
    Calls Try.prog 17 #[.pointer (some ⟨q, 0, none⟩), .pointer (some ⟨p, 0, none⟩), .pointer (some ⟨r, 0, none⟩), .agg #[.int .i64 kd, .int .i64 n, vb], .slice a1 nb c1, .int .i64 (wrongE us ct nb), .int .i64 (fr : Int)] wr fun e w' => Lost w q r fr ct ep m e w' := by
  have hw : 0 ≤ IntKind.u64.wrap n := by rw [IntKind.wrap_u64]; omega
  obtain ⟨f, hf⟩ : ∃ f : Nat, (IntKind.u64.wrap n).tmod 7 = (f : Int) := ⟨((IntKind.u64.wrap n).tmod 7).toNat, by rw [Int.tmod_eq_emod_of_nonneg hw]; omega⟩
  have hf7 : f < 7 := by rw [Int.tmod_eq_emod_of_nonneg hw] at hf; omega
  by_cases hE : wrongE us ct nb = 0
  · by_cases hfb : bks nb ≤ f
    · exact lost_ok hP hC hm kd n vb hvb f hf7 hf a1 nb c1 l hr hl hX hnb hep hE hfb
    · exact lost_lost hP hC hm kd n vb hvb f hf7 hf a1 nb c1 l hr hl hX hnb hep hE (by omega)
  · exact lost_no hP hC hm kd n vb hvb f hf7 hf a1 nb c1 l hr hl hX hnb hep hE
/-- A new disk, and its Log, beside blocks that the caller made in between. -/
theorem sy_new2 {w0 w : World} (k : Kept [] w0 w) (nb fr ct ep : Nat) (hnb : nb ≤ 65536) (hc : 1 ≤ ct) (ha : fr + ct ≤ nb) (he : ep < 18446744073709551616) :
    Calls Try.prog 9 #[.int .i64 (nb : Int)] w fun e w1 => ∃ q, e = .returned (.pointer (some ⟨q, 0, none⟩)) ∧ Kept [] w w1 ∧ ∀ w2 Y, Kept [] w1 w2 → (∀ y ∈ Y, w1.heap.size ≤ y ∧ y < w2.heap.size) → Calls Try.prog 10 #[.pointer (some ⟨q, 0, none⟩), .int .i64 (fr : Int), .int .i64 (ct : Int), .int .u64 (ep : Int)] w2 fun e w' => ∃ p, e = .returned (.tuple #[.pointer (some ⟨p, 0, none⟩), .int .i64 0]) ∧ Sy w0 w' q p ⟨nb, [], -1, false⟩ fr ct ep [] false Y ∧ Kept [] w2 w' := by
  refine (new_nb nb hnb w).mono fun e w1 ⟨q, heq, F, hD, k1, nF⟩ => ⟨q, heq, k1, fun w2 Y k2 hY => ?_⟩
  refine (open_new (hD.kept k2 (by simp)) hc ha hnb he).mono fun e w' ⟨p, hep, H, hL, k3, nH⟩ => ⟨p, hep, ⟨H, hL, ((k.trans k1 (by simp)).trans k2 (by simp)).trans k3 (by simp), fun x hx => ?_⟩, k3⟩
  rcases nH x hx with h | h
  · exact ⟨Nat.le_trans k.size (nF x h), fun hm => by have := hD.lt x h; have := hY x hm; omega⟩
  · exact ⟨by have := k.size; have := k1.size; have := k2.size; omega, fun hm => by have := hY x hm; omega⟩

set_option maxRecDepth 100000 in
theorem plays_long (ct fr : Int) (a : Option Addr) (n c : Nat) (w : World) (h : 60 < n) : Calls Try.prog 3 #[.int .u8 ct, .int .u8 fr, .slice a n c] w fun e w' => e = .returned (.bool true) ∧ Kept [] w w' := by
  have hn : (60 : Int) < (n : Int) := by omega
  go_enter Try.func3, Try.ntmps3
  go_wp2_with fail
  refine (awake_any w).mono ?_
  rintro e w1 ⟨rfl, k1⟩
  go_wp2_with fail
  refine (awake_any w1).mono ?_
  rintro e w2 ⟨rfl, k2⟩
  have hK := k1.trans k2 (by simp)
  clear k1 k2
  go_wp2
  go_ret
  exact ⟨rfl, hK⟩
set_option maxRecDepth 100000 in
set_option maxHeartbeats 400000 in
theorem plays_zero (fr : Nat) (hfr : fr ≤ 255) (a : Option Addr) (n c : Nat) (w : World) (h : n ≤ 60) : Calls Try.prog 3 #[.int .u8 0, .int .u8 (fr : Int), .slice a n c] w fun e w' => e = .returned (.bool true) ∧ Kept [] w w' := by
  have hn : ¬ (60 : Int) < (n : Int) := by omega
  go_enter Try.func3, Try.ntmps3
  go_wp2_with fail
  refine (awake_any w).mono ?_
  rintro e w1 ⟨rfl, k1⟩
  have hnew := new_nb fr (by omega) w1
  go_wp2_with fail
  refine hnew.mono ?_
  rintro e w2 ⟨q, rfl, F, hD, k2, -⟩
  have k3 : Kept [] w2 (w2.alloc (.cells #[.slice none 0 0, .int .i64 0, .int .u64 1] 30)) := (Kept.refl [] w2).alloc _
  have hop : Calls Try.prog 10 #[.pointer (some ⟨q, 0, none⟩), .int .i64 (fr : Int), .int .i64 0, .int .u64 1] (w2.alloc (.cells #[.slice none 0 0, .int .i64 0, .int .u64 1] 30)) fun e w' => e = .returned (.tuple #[.pointer none, .int .i64 1]) ∧ (w2.alloc (.cells #[.slice none 0 0, .int .i64 0, .int .u64 1] 30)) = w' := open_arg (hD.kept k3 (by simp)) (fr : Int) 0 1 (by omega) (.inr (.inl (by omega)))
  have hK := (k1.trans k2 (by simp)).trans k3 (by simp)
  clear hnew k1 k2 k3 hD
  go_wp2_with fail
  refine hop.mono ?_
  rintro e w4 ⟨rfl, rfl⟩
  clear hop
  go_wp2_with fail
  go_ret
  exact ⟨rfl, hK⟩
end Go.Proofs.Ytdcjaopmfccgbaa
