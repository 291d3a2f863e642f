/-
  Rows of bytes that are stored into; a first Save, seen from memory that was made ahead of it.
-/
import Derived.Test.YthjdlbejfaejkaaAwake
namespace Go.Proofs.Ythjdlbejfaejkaa
open Go.RowKit
set_option linter.unusedVariables false

/-- The slice v is a row of n cells of a kind, that may be stored into. -/
def RowOf (w : World) (v : Value) (n : Nat) (K : Value → Prop) : Prop :=
  ∃ a cap, v = .slice a n cap ∧ n ≤ cap ∧ cap ≤ 9223372036854775807 ∧ (0 < n → ∃ g, a = some ⟨g, 0, none⟩ ∧ ∀ k, k < n → ∃ z, K z ∧ w.cell? ⟨g, k, none⟩ = some z ∧ w.frozen? ⟨g, k, none⟩ = false)

theorem RowOf.of_owns {w : World} {e : TypeId} {v : Value} {n : Nat} {xs : List Value} {K : Value → Prop} (h : w.ownsRow 0 e 1 v n xs) (hl : xs.length = n) (hK : ∀ z ∈ xs, K z) : RowOf w v n K := by
  have hcells := fun g hg => World.ownsRow.cells h (g := g) hg
  rcases h.2 with ⟨rfl, h0⟩ | ⟨g, cap, cur, rfl, _, hg, h1, h2, h3, h4⟩
  · subst h0
    exact ⟨none, 0, rfl, by simp, by simp, by simp⟩
  · refine ⟨some ⟨g, 0, none⟩, cap, rfl, h1, h2, fun hn => ⟨g, rfl, fun k hk => ?_⟩⟩
    have hx : xs[k]? = some (xs[k]'(by omega)) := by simp
    have := hcells g rfl k _ hx
    have hadd : (⟨g, 0, Option.none⟩ : Addr).add k = ⟨g, k, Option.none⟩ := by unfold Addr.add; split <;> simp_all
    rw [hadd] at this
    exact ⟨_, hK _ (List.getElem_mem _), this, by simp [World.frozen?, hg]⟩

theorem RowOf.set {w : World} {v : Value} {n : Nat} {K : Value → Prop} (h : RowOf w v n K) {g j : Nat} (hg : v.ownBlock = some g) (hj : j < n) {z : Value} (hz : K z) : RowOf (w.setCell ⟨g, j, none⟩ z) v n K := by
  obtain ⟨a, cap, rfl, h2, h3, h4⟩ := h
  refine ⟨a, cap, rfl, h2, h3, fun hn => ?_⟩
  obtain ⟨g', rfl, hc⟩ := h4 hn
  have e : g' = g := by simpa [Value.ownBlock] using hg
  subst e
  refine ⟨g', rfl, fun k hk => ?_⟩
  obtain ⟨x, hx, hcx, hfx⟩ := hc k hk
  have hf : (w.setCell ⟨g', j, none⟩ z).frozen? ⟨g', k, none⟩ = false := by simp [hfx]
  by_cases hjk : j = k
  · subst hjk
    exact ⟨z, hz, World.cell?_setCell_same w _ _ hcx, hf⟩
  · exact ⟨x, hx, (World.cell?_setCell_other _ ⟨g', j, none⟩ ⟨g', k, none⟩ _ (fun h => hjk (by cases h; rfl))).trans hcx, hf⟩

def isByte (z : Value) : Prop := ∃ x : Int, 0 ≤ x ∧ x ≤ 255 ∧ z = .int .u8 x

theorem RowOf.bytes {w : World} {v : Value} {l : List UInt8} (h : Owns 5 w v l) : RowOf w v l.length isByte := RowOf.of_owns h (C8_length l) (fun z hz => by
  simp only [C8, List.mem_map] at hz
  obtain ⟨u, _, rfl⟩ := hz
  exact ⟨u.toNat, by omega, by have := u.toNat_lt; omega, rfl⟩)

theorem save_first {w0 w2 w4 : World} {q p : Nat} (h : Has w0 w2 q p 2 []) (k : Kept [] w2 w4) (v : Value) (l : List UInt8) (hr : Reads w4 v l) (hl : l.length ≤ 200) :
    Calls Try.prog 12 #[.pointer (some ⟨p, 0, none⟩), v] w4 fun e w5 => e = .returned (.int .i64 0) ∧ ∃ v', IsS w5 p v' (1, l) q false ∧ Kept [] w0 w5 ∧ w0.heap.size ≤ p ∧ p < w2.heap.size ∧ ∃ S, Kept S w4 w5 ∧ (∀ x ∈ S, x < w2.heap.size) ∧ Fresh w4 v' := by
  obtain ⟨F, s, vp, h1, h2, h3, h4, h5, h6, h7, h8⟩ := h
  have hp := plc_succ 0 (by omega)
  have hlt : plc 1 < s.nb := by have := plc_lt 1; omega
  have hr' := hr
  obtain ⟨a, cap, rfl, _⟩ := hr
  have hws : s.ws.length = 0 := h2.1
  have hplt := h1.sup.lt
  refine (save_ok (h1.kept k) a l.length cap l hr' rfl hl (show 0 ≤ 1000 by omega) (by omega) (wrE_ok h3 h4 hlt)).mono fun e w' ⟨he, F', v', hY, hk, hN, hf⟩ => ⟨he, v', hY.sup, (h6.trans k (by simp)).trans hk (fun x hx => ?_), h8, hplt, _, hk, fun x hx => ?_, hf⟩
  · rcases List.mem_cons.1 hx with rfl | hx
    · exact .inr h8
    · exact .inr (h7 x hx)
  · rcases List.mem_cons.1 hx with rfl | hx
    · exact hplt
    · exact h1.dsk.lt x hx

end Go.Proofs.Ythjdlbejfaejkaa
