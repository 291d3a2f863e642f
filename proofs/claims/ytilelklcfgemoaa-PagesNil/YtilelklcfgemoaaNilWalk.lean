/-
  PagesNil answers true.
-/
import Derived.Test.YtilelklcfgemoaaAgainWalk
namespace Go.Proofs.Ytilelklcfgemoaa
open Go.RowKit
set_option linter.unusedVariables false

/-- The slice v is a row of n cells of a kind, that may be stored into. -/
def RowOf (w : World) (v : Value) (n : Nat) (K : Value → Prop) : Prop :=
  ∃ a cap, v = .slice a n cap ∧ n ≤ cap ∧ cap ≤ 9223372036854775807 ∧ (0 < n → ∃ g, a = some ⟨g, 0, none⟩ ∧ ∀ k, k < n → ∃ z, K z ∧ w.cell? ⟨g, k, none⟩ = some z ∧ w.frozen? ⟨g, k, none⟩ = false)
theorem RowOf.of_owns {w : World} {e : TypeId} {v : Value} {n : Nat} {xs : List Value} {K : Value → Prop} (h : w.ownsRow 0 e 1 v n xs) (hl : xs.length = n) (hK : ∀ z ∈ xs, K z) : RowOf w v n K := by
  have hcells := fun g hg => World.ownsRow.cells h (g := g) hg
  rcases h.2 with ⟨rfl, h0⟩ | ⟨g, cap, cur, rfl, _, hg, h1, h2, h3, h4⟩
  · subst h0
    exact ⟨none, 0, rfl, by simp, by simp, by simp⟩
  · refine ⟨some ⟨g, 0, none⟩, cap, rfl, h1, h2, fun hn => ⟨g, rfl, fun k hk => ?_⟩⟩
    have hx : xs[k]? = some (xs[k]'(by omega)) := by simp
    have := hcells g rfl k _ hx
    have hadd : (⟨g, 0, Option.none⟩ : Addr).add k = ⟨g, k, Option.none⟩ := by unfold Addr.add; split <;> simp_all
    rw [hadd] at this
    exact ⟨_, hK _ (List.getElem_mem _), this, by simp [World.frozen?, hg]⟩
theorem RowOf.set {w : World} {v : Value} {n : Nat} {K : Value → Prop} (h : RowOf w v n K) {g j : Nat} (hg : v.ownBlock = some g) (hj : j < n) {z : Value} (hz : K z) : RowOf (w.setCell ⟨g, j, none⟩ z) v n K := by
  obtain ⟨a, cap, rfl, h2, h3, h4⟩ := h
  refine ⟨a, cap, rfl, h2, h3, fun hn => ?_⟩
  obtain ⟨g', rfl, hc⟩ := h4 hn
  have e : g' = g := by simpa [Value.ownBlock] using hg
  subst e
  refine ⟨g', rfl, fun k hk => ?_⟩
  obtain ⟨x, hx, hcx, hfx⟩ := hc k hk
  have hf : (w.setCell ⟨g', j, none⟩ z).frozen? ⟨g', k, none⟩ = false := by simp [hfx]
  by_cases hjk : j = k
  · subst hjk
    exact ⟨z, hz, World.cell?_setCell_same w _ _ hcx, hf⟩
  · exact ⟨x, hx, (World.cell?_setCell_other _ ⟨g', j, none⟩ ⟨g', k, none⟩ _ (fun h => hjk (by cases h; rfl))).trans hcx, hf⟩
def isByte (z : Value) : Prop := ∃ x : Int, 0 ≤ x ∧ x ≤ 255 ∧ z = .int .u8 x
theorem RowOf.bytes {w : World} {v : Value} {l : List UInt8} (h : Owns 5 w v l) : RowOf w v l.length isByte := RowOf.of_owns h (C8_length l) (fun z hz => by
  simp only [C8, List.mem_map] at hz
  obtain ⟨u, _, rfl⟩ := hz
  exact ⟨u.toNat, by omega, by have := u.toNat_lt; omega, rfl⟩)

set_option maxRecDepth 100000 in
set_option maxHeartbeats 1000000 in
theorem nil_all (w : World) (k : Int) (hkw : (Lit.int .i64 k).wf = true) (l : List UInt8) (a : Option Addr) (m c : Nat) (hm : Hid (m = l.length)) (hm0 : m ≤ 140737488351232) (hr : Reads w (.slice a m c) l) (hlt : ∀ g, (Value.slice a m c).ownBlock = some g → g < w.heap.size) :
    Calls Try.prog 7 #[.int .i64 k, .slice a m c] w fun e w' => e = .returned (.bool true) ∧ Kept [] w w' := by
  go_enter Try.func7, Try.ntmps7
  go_wp2_with fail
  have HR := Hid.mk hr
  clear hr
  refine (awake_any w).mono ?_
  rintro e w1 ⟨rfl, k1⟩
  by_cases hbig : 3000 < m
  · have hgt : (3000 : Int) < (m : Int) := by omega
    go_wp2_with fail
    refine (awake_any w1).mono ?_
    rintro e w2 ⟨rfl, k2⟩
    have hK := k1.trans k2 (by simp)
    clear k1 k2
    go_wp2
    go_ret
    exact ⟨rfl, hK⟩
  · have hgt : ¬ (3000 : Int) < (m : Int) := by omega
    have hp0 := put_nil a m c w1 (by omega)
    go_wp2_with fail
    refine hp0.mono ?_
    rintro e w2 ⟨rfl, rfl⟩
    clear hp0
    go_wp2_with fail
    refine (get_nil k w1).mono ?_
    rintro e w2 ⟨rfl, rfl⟩
    have hnew := sy_new k1 30 2 28 (by omega) (by omega) (by omega)
    change Calls Try.prog 10 #[.int .i64 30] w1 _ at hnew
    go_wp2_with fail
    refine hnew.mono ?_
    rintro e w2 ⟨q, rfl, k2, hop'⟩
    have hop := hop' w2 (Kept.refl _ _)
    change Calls Try.prog 11 #[.pointer (some ⟨q, 0, none⟩), .int .i64 2, .int .i64 28, .slice none 0 0] w2 _ at hop
    clear hnew hop' k1 k2
    go_wp2_with fail
    refine hop.mono ?_
    rintro e w3 ⟨p, fl, rfl, hfl, hS, -⟩
    clear hop
    have hg0 := sy_get_none hS k hkw (by simp)
    have hd0 := sy_drop_none hS k hkw (by simp)
    have hbk : bks m ≤ 13 := by unfold bks; omega
    have hput := sy_put hS a m c l hm.out (HR.out.kept hS.k (by simp)) (fun g hg => .inr (hlt g hg)) (by simp) (by omega) (by omega) rfl (.inl (by show (-1 : Int) < 0; omega)) (by simp)
    clear hS
    go_wp2_with fail
    refine hg0.mono ?_
    rintro e w4 ⟨rfl, rfl⟩
    clear hg0
    go_wp2_with fail
    refine hd0.mono ?_
    rintro e w4 ⟨rfl, rfl⟩
    clear hd0
    go_wp2_with fail
    refine hput.mono ?_
    rintro e w4 ⟨nm, vs, fu, rfl, -, hvs, -, hfu, hS, -⟩
    clear hput hvs hfu
    have hget := sy_get hS rfl (nm, fl.take (bks m), l) (by simp)
    change Calls Try.prog 24 #[.pointer (some ⟨p, 0, none⟩), .int .i64 (nm : Int)] w4 _ at hget
    go_wp2_with fail
    refine hget.mono ?_
    rintro e w5 ⟨v, rfl, hO, k5, hF⟩
    have hO' : Owns 5 w5 v l := hO
    have hS5 := Hid.mk (hS.more (Y := v.ownBlock.toList) k5 (fun y hy => hF y (by simpa using hy)))
    have hF5 : Hid (∀ g, v.ownBlock = some g → w.heap.size ≤ g) := fun g hg => Nat.le_trans hS.k.size (hF g hg)
    have hR5 := RowOf.bytes hO'
    rw [← hm.out] at hR5
    obtain ⟨ax, cx, rfl, hb1, hb2, -⟩ := id hR5
    have KR : Kept (Value.slice ax m cx).ownBlock.toList w5 w5 := Kept.refl _ _
    clear hget hS hO hO' k5 hF
    go_wp2_with fail
    go_loopw [72] (fun i wr => ∃ j : Nat, j ≤ m ∧ i = .int .i64 (j : Int) ∧ Kept (Value.slice ax m cx).ownBlock.toList w5 wr ∧ RowOf wr (.slice ax m cx) m isByte) (fun i _ => m - (numOf i).toNat)
    case atStart => exact ⟨0, Nat.zero_le _, rfl, KR, hR5⟩
    case round =>
      clear KR hR5
      obtain ⟨j, hj, rfl, K6, hR6⟩ := hrel
      by_cases hjm : j < m
      · have hlt3 : (j : Int) < (m : Int) := by omega
        obtain ⟨a', cap', hv, -, -, hc⟩ := id hR6
        injection hv with e1 e2 e3
        subst e1 e3
        obtain ⟨g, rfl, hcc⟩ := hc (by omega)
        obtain ⟨z, ⟨x, hx0, hx1, rfl⟩, hcz, hfz⟩ := hcc j hjm
        have hSS := fun (y : Int) (h0 : 0 ≤ y) (h1 : y ≤ 255) => hR6.set (g := g) (j := j) rfl hjm (z := .int .u8 y) ⟨y, h0, h1, rfl⟩
        have hKK := fun (y : Int) => K6.setCell (p := ⟨g, j, none⟩) (.inl (by simp [Value.ownBlock])) (.int .u8 y)
        clear hc hcc hR6 K6
        go_wp2_with fail
        exact ⟨⟨j + 1, by omega, by go_num, hKK _, hSS _ (by omega) (by omega)⟩, by simp [numOf]; omega⟩
      · have hlt3 : ¬ (j : Int) < (m : Int) := by omega
        have hS6 := hS5.out.turn K6 (fun y hy => .inl (by simp at hy ⊢; exact hy)) (fun y hy => hF5.out y (by simpa using hy))
        have hget := sy_get hS6 rfl (nm, fl.take (bks m), l) (by simp)
        change Calls Try.prog 24 #[.pointer (some ⟨p, 0, none⟩), .int .i64 (nm : Int)] wr _ at hget
        have hK6 := hS6.k
        clear hS6 hR6 K6 hS5 hF5
        go_wp2_with fail
        refine hget.mono ?_
        rintro e w7 ⟨y, rfl, hOy, k7, -⟩
        have hK7 := hK6.trans k7 (by simp)
        have hs1 := str34 _ _ _ hOy.reads
        have hs2 := str34 _ _ _ (HR.out.kept hK7 (by simp))
        clear hget hK6 k7 hOy
        go_wp2_with fail
        refine (open_nild _ w7).mono ?_
        rintro e w8 ⟨rfl, rfl⟩
        go_wp2_with fail
        refine (drop_nil' k w7).mono ?_
        rintro e w8 ⟨rfl, rfl⟩
        go_wp2_with fail
        refine (names_nil w7).mono ?_
        rintro e w8 ⟨rfl, rfl⟩
        go_wp2_with fail
        refine (free_nil w7).mono ?_
        rintro e w8 ⟨rfl, rfl⟩
        go_wp2_with fail
        refine (blocks_nilP k w7).mono ?_
        rintro e w8 ⟨rfl, rfl⟩
        go_wp2
        go_ret
        exact ⟨rfl, hK7⟩
end Go.Proofs.Ytilelklcfgemoaa
