/-
  read: of a name at which no text lies.
-/
import Derived.Test.YtilelklcfgemoaaRd
namespace Go.Proofs.Ytilelklcfgemoaa
open Go.RowKit
set_option linter.unusedVariables false

/-- What read answers where there is none. -/
def ReadNo (w : World) (e : Ending) (w' : World) : Prop := e = .returned (.tuple #[.slice none 0 0, .slice none 0 0, .int .i64 0]) ∧ Kept [] w w'
set_option maxRecDepth 100000 in
set_option maxHeartbeats 1000000 in
theorem rd_out {w : World} {F G : List Nat} {p q fr ct : Nat} {T : List (Nat × List Nat)} {fl : List Nat} (hP : IsP w G p q fr ct T fl) (ha : fr + ct ≤ 65536) (nm : Nat) (ho : nm < fr ∨ fr + ct ≤ nm) (hb : nm < 4611686018427387904) :
    Calls Try.prog 39 #[.pointer (some ⟨p, 0, none⟩), .int .i64 (nm : Int)] w fun e w' => ReadNo w e w' := by
  have fin : ∀ w', Kept [] w w' → ReadNo w (.returned (.tuple #[.slice none 0 0, .slice none 0 0, .int .i64 0])) w' := fun w' h => ⟨rfl, h⟩
  generalize ReadNo w = Z at fin
  have k0 := kept_alloc w (.cells #[.bool false, .int .i64 0, .int .i64 0, .slice none 0 0] 90)
  obtain ⟨-, c1, c2⟩ := (hP.kept k0 (by simp)).cells
  have hh := has_out p fr ct nm _ c1 c2 ho ha hb
  clear c1 c2
  go_enter Try.func39, Try.ntmps39
  go_wp2_with fail
  generalize w.alloc (.cells #[.bool false, .int .i64 0, .int .i64 0, .slice none 0 0] 90) = w0 at k0 hh
  go_loopw [10] (fun i wr => i = .int .i64 (nm : Int) ∧ wr = w0) (fun _ _ => 0)
  case atStart => exact ⟨rfl, rfl⟩
  case round =>
    obtain ⟨rfl, rfl⟩ := hrel
    go_wp2_with fail
    refine hh.mono ?_
    rintro e w1 ⟨rfl, k1⟩
    have hf := Hid.mk (fin _ (k0.trans k1 (by simp)))
    clear fin
    go_wp2
    refine bodyPost_ret (results_tmp3 rfl _ _ _) rfl ?_
    exact hf.out
set_option maxRecDepth 100000 in
set_option maxHeartbeats 1000000 in
theorem rd_none {w : World} {F G : List Nat} {p q fr ct : Nat} {T : List (Nat × List Nat)} {fl : List Nat} {s : St} (hD : IsD w F q s) (hP : IsP w G p q fr ct T fl) (hd : s.down = false) (ha : fr + ct ≤ s.nb) (nm : Nat) (h1 : fr ≤ nm) (h2 : nm < fr + ct) (hn : ¬ isPart (plc nm nm) (blk s.ws nm)) :
    Calls Try.prog 39 #[.pointer (some ⟨p, 0, none⟩), .int .i64 (nm : Int)] w fun e w' => ReadNo w e w' := by
  have hnb := hD.ok.nb
  have fin : ∀ w', Kept [] w w' → ReadNo w (.returned (.tuple #[.slice none 0 0, .slice none 0 0, .int .i64 0])) w' := fun w' h => ⟨rfl, h⟩
  generalize ReadNo w = Z at fin
  have k0 := kept_alloc w (.cells #[.bool false, .int .i64 0, .int .i64 0, .slice none 0 0] 90)
  have hP0 := hP.kept k0 (by simp)
  have hD0 := hD.kept k0 (by simp)
  obtain ⟨-, c1, c2⟩ := hP0.cells
  have hh := has_in p fr ct nm _ c1 c2 h1 h2 (by omega)
  have hbl := blk_len s.nb s.ws hD.ok.ws nm
  clear c1 c2
  go_enter Try.func39, Try.ntmps39
  go_wp2_with fail
  generalize w.alloc (.cells #[.bool false, .int .i64 0, .int .i64 0, .slice none 0 0] 90) = w0 at k0 hh hP0 hD0
  go_loopw [10] (fun i wr => i = .int .i64 (nm : Int) ∧ wr = w0) (fun _ _ => 0)
  case atStart => exact ⟨rfl, rfl⟩
  case round =>
    obtain ⟨rfl, rfl⟩ := hrel
    go_wp2_with fail
    refine hh.mono ?_
    rintro e w1 ⟨rfl, k1⟩
    have hrdr := read_ok (hD0.kept k1 (by simp)) nm hd (by omega)
    have hP1 := hP0.kept k1 (by simp)
    have kk := k0.trans k1 (by simp)
    obtain ⟨c0, -, -⟩ := hP1.cells
    clear hh k1 hD0 hP0
    go_wp2_with fail
    refine hrdr.mono ?_
    rintro e w2 ⟨rfl, hR2, k2⟩
    have hp2 := pin_any nm nm _ _ w2 (by omega) (by omega) (hR2.reads_all hbl)
    have kk := kk.trans k2 (by simp)
    clear hrdr hR2 k2 c0
    generalize w1.heap.size = rb at hp2
    go_wp2_with fail
    refine hp2.mono ?_
    rintro e w3 ⟨v3, rfl, hr3, k3, -⟩
    rw [decide_eq_false hn]
    obtain ⟨a3, cp3, rfl, -⟩ := hr3
    have kk := kk.trans k3 (by simp)
    clear hp2 k3
    generalize partOf (plc nm nm) (blk s.ws nm) = P at kk
    obtain ⟨t, lf, nx, l⟩ := P
    simp only
    have hf := Hid.mk (fin _ (kk.alloc (.cells #[.bool t, .int .i64 (lf : Int), .int .i64 (nx : Int), .slice a3 l.length cp3] 90)))
    clear fin kk
    generalize l.length = n3 at hf
    go_wp2
    refine bodyPost_ret (results_tmp3 rfl _ _ _) rfl ?_
    exact hf.out
end Go.Proofs.Ytilelklcfgemoaa
