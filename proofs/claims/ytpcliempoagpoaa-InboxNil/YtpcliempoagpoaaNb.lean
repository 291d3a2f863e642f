/-
  Rows of integers that are stored into; a nil inbox; what InboxNil has in its hands.
-/
import Derived.Test.YtpcliempoagpoaaIl
namespace Go.Proofs.Ytpcliempoagpoaa
open Go.RowKit
set_option linter.unusedVariables false
/-- The first n cells of the row are integers, and may be stored into. -/
def IntRow (w : World) (a : Option Addr) (n : Nat) : Prop := ∀ k, k < n → ∃ b z, a = some ⟨b, 0, none⟩ ∧ w.cell? ⟨b, k, none⟩ = some (.int .i64 z) ∧ w.frozen? ⟨b, k, none⟩ = false
theorem OwnsJ.row {w : World} {a : Option Addr} {c : Nat} {l : List Int} (h : OwnsJ w (.slice a l.length c) l) : IntRow w a l.length := by
  intro k hk
  have hr := h.reads
  obtain ⟨z, hz⟩ : ∃ z, l[k]? = some z := ⟨_, List.getElem?_eq_getElem hk⟩
  obtain ⟨b, o, rfl, hc⟩ := hr.at hz
  rcases h.2 with ⟨h0, _⟩ | ⟨g, cap, cur, h0, _, hg, h1, h2, h3, h4⟩
  · cases h0
  · injection h0 with h0 _ _
    injection h0 with h0
    injection h0 with hb ho _
    subst hb ho
    rw [Nat.zero_add] at hc
    exact ⟨b, z, rfl, hc, by simp [World.frozen?, hg]⟩
theorem IntRow.store {w : World} {b n : Nat} (h : IntRow w (some ⟨b, 0, none⟩) n) (j : Nat) (y : Int) : IntRow (w.setCell ⟨b, j, none⟩ (.int .i64 y)) (some ⟨b, 0, none⟩) n := by
  intro k hk
  obtain ⟨b', z, e, h1, h2⟩ := h k hk
  injection e with e
  injection e with e _ _
  subst e
  by_cases hkj : j = k
  · subst hkj
    exact ⟨b, y, rfl, World.cell?_setCell_same _ _ _ h1, by rw [World.frozen?_setCell]; exact h2⟩
  · exact ⟨b, z, rfl, by rw [World.cell?_setCell_other _ _ _ _ (by intro e; injection e; omega)]; exact h1, by rw [World.frozen?_setCell]; exact h2⟩
/-- A letter that lies in a block of its own. -/
def BoxL (W : World) (b : Nat) (x : Lt) (a : Option Addr) (c : Nat) : Prop := W.heap[b]? = some (.cells #[Sv x.fr, .int .u64 (x.ser : Int), .int .i64 x.kind, .slice a x.args.length c] 34 (0, 0))
/-- What is at hand behind the Push. -/
structure Bag (w W : World) (x : Lt) (a : Option Addr) (c bw : Nat) (a3 : Option Addr) (c3 p : Nat) (q : Lq) : Prop where
  lbox : BoxL W w.heap.size x a c
  wbox : BoxL W bw x a3 c3
  want : OwnsJ W (.slice a3 x.args.length c3) x.args
  inb : IsB W p [q]
  qx : q.x = x
  kept : Kept [] w W
section
variable {w W W' : World} {x : Lt} {a a3 : Option Addr} {c bw c3 p : Nat} {q : Lq}
theorem BoxL.kept {b : Nat} (h : BoxL W b x a c) {S : List Nat} (k : Kept S W W') (hb : b ∉ S) : BoxL W' b x a c := k.keeps h hb
theorem BoxL.ne {b : Nat} (h : BoxL W b x a c) {v : Value} {l : List Int} (ho : OwnsJ W v l) : b ∉ v.ownBlock.toList := by
  rw [Option.mem_toList]
  exact ownsJ_ne ho h (by decide)
theorem Bag.kept0 (h : Bag w W x a c bw a3 c3 p q) (k : Kept [] W W') : Bag w W' x a c bw a3 c3 p q :=
  ⟨h.lbox.kept k (by simp), h.wbox.kept k (by simp), h.want.kept k (by simp), h.inb.kept0 k, h.qx, h.kept.trans k (by simp)⟩
/-- A row of integers that is younger than all of it is stored into. -/
theorem Bag.stored (h : Bag w W x a c bw a3 c3 p q) {v : Value} {l : List Int} (ho : OwnsJ W v l) (k : Kept v.ownBlock.toList W W') (h3 : ∀ g, v.ownBlock = some g → (Value.slice a3 x.args.length c3).ownBlock ≠ some g) (hq : ∀ g, v.ownBlock = some g → q.sl.ownBlock ≠ some g) (hw : Fresh w v) : Bag w W' x a c bw a3 c3 p q :=
  ⟨h.lbox.kept k (h.lbox.ne ho), h.wbox.kept k (h.wbox.ne ho), h.want.kept k (fun g hg hm => by rw [Option.mem_toList] at hm; exact h3 g hm hg),
    h.inb.kept k (by rw [Option.mem_toList]; exact ownsJ_ne ho h.inb.box (by decide)) (fun y hy g hg hm => by
      rw [Option.mem_toList] at hm
      simp at hy
      subst hy
      exact hq g hm hg), h.qx, h.kept.trans k (fun y hy => by rw [Option.mem_toList] at hy; exact .inr (hw y hy))⟩
set_option maxRecDepth 100000 in
set_option maxHeartbeats 1000000 in
theorem push11_nil (x : Lt) (a : Option Addr) (c : Nat) : Calls Try.prog 11 #[.pointer none, Lv x a c] w fun e w' => e = .returned (.int .i64 1) ∧ Kept [] w w' := by
  go_enter Try.func11, Try.ntmps11
  go_wp2_with fail
  go_ret
  exact ⟨rfl, (Kept.refl [] w).alloc _⟩
theorem pop13_nil : Calls Try.prog 13 #[.pointer none] w fun e w' => LetB w ⟨[], 0, 0, []⟩ false e w' := pop13_none (fun W k => first22_nil)
end
end Go.Proofs.Ytpcliempoagpoaa
