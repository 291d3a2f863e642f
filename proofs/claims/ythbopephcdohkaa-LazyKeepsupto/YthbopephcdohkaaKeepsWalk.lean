/-
  LazyKeeps: the walk.
-/
import Derived.Test.YthbopephcdohkaaBackWalk
namespace Go.Proofs.Ythbopephcdohkaa
open Go.RowKit
set_option linter.unusedVariables false

/-- The slice v is a row of n cells of a kind, that may be stored into. -/
def RowOf (w : World) (v : Value) (n : Nat) (K : Value → Prop) : Prop :=
  ∃ a cap, v = .slice a n cap ∧ n ≤ cap ∧ cap ≤ 9223372036854775807 ∧ (0 < n → ∃ g, a = some ⟨g, 0, none⟩ ∧ ∀ k, k < n → ∃ z, K z ∧ w.cell? ⟨g, k, none⟩ = some z ∧ w.frozen? ⟨g, k, none⟩ = false)

theorem RowOf.of_owns {w : World} {e : TypeId} {v : Value} {n : Nat} {xs : List Value} {K : Value → Prop} (h : w.ownsRow 0 e 1 v n xs) (hl : xs.length = n) (hK : ∀ z ∈ xs, K z) : RowOf w v n K := by
  have hcells := fun g hg => World.ownsRow.cells h (g := g) hg
  rcases h.2 with ⟨rfl, h0⟩ | ⟨g, cap, cur, rfl, _, hg, h1, h2, h3, h4⟩
  · subst h0
    exact ⟨none, 0, rfl, by simp, by simp, by simp⟩
  · refine ⟨some ⟨g, 0, none⟩, cap, rfl, h1, h2, fun hn => ⟨g, rfl, fun k hk => ?_⟩⟩
    have hx : xs[k]? = some (xs[k]'(by omega)) := by simp
    have := hcells g rfl k _ hx
    have hadd : (⟨g, 0, Option.none⟩ : Addr).add k = ⟨g, k, Option.none⟩ := by unfold Addr.add; split <;> simp_all
    rw [hadd] at this
    exact ⟨_, hK _ (List.getElem_mem _), this, by simp [World.frozen?, hg]⟩

theorem RowOf.set {w : World} {v : Value} {n : Nat} {K : Value → Prop} (h : RowOf w v n K) {g j : Nat} (hg : v.ownBlock = some g) (hj : j < n) {z : Value} (hz : K z) : RowOf (w.setCell ⟨g, j, none⟩ z) v n K := by
  obtain ⟨a, cap, rfl, h2, h3, h4⟩ := h
  refine ⟨a, cap, rfl, h2, h3, fun hn => ?_⟩
  obtain ⟨g', rfl, hc⟩ := h4 hn
  have e : g' = g := by simpa [Value.ownBlock] using hg
  subst e
  refine ⟨g', rfl, fun k hk => ?_⟩
  obtain ⟨x, hx, hcx, hfx⟩ := hc k hk
  have hf : (w.setCell ⟨g', j, none⟩ z).frozen? ⟨g', k, none⟩ = false := by simp [hfx]
  by_cases hjk : j = k
  · subst hjk
    exact ⟨z, hz, World.cell?_setCell_same w _ _ hcx, hf⟩
  · exact ⟨x, hx, (World.cell?_setCell_other _ ⟨g', j, none⟩ ⟨g', k, none⟩ _ (fun h => hjk (by cases h; rfl))).trans hcx, hf⟩

def isByte (z : Value) : Prop := ∃ x : Int, 0 ≤ x ∧ x ≤ 255 ∧ z = .int .u8 x
def isText (z : Value) : Prop := ∃ t : ByteArray, z = .string t

theorem RowOf.bytes {w : World} {v : Value} {l : List UInt8} (h : Owns 5 w v l) : RowOf w v l.length isByte := RowOf.of_owns h (C8_length l) (fun z hz => by
  simp only [C8, List.mem_map] at hz
  obtain ⟨u, _, rfl⟩ := hz
  exact ⟨u.toNat, by omega, by have := u.toNat_lt; omega, rfl⟩)
theorem RowOf.texts {w : World} {v : Value} {l : List (List UInt8)} (h : OwnsT w v l) : RowOf w v l.length isText := RowOf.of_owns h (CT_length l) (fun z hz => by
  simp only [CT, List.mem_map] at hz
  obtain ⟨u, _, rfl⟩ := hz
  exact ⟨_, rfl⟩)

set_option maxHeartbeats 400000 in
theorem together_nil (v : Value) (w : World) : Calls Try.prog 17 #[.pointer none, v] w fun e w' => e = .returned (.slice none 0 0) ∧ Kept [] w w' := by
  go_enter Try.func17, Try.ntmps17
  go_wp2
  go_ret
  exact ⟨rfl, (Kept.refl [] w).alloc _⟩

set_option maxRecDepth 100000 in
set_option maxHeartbeats 4000000 in
theorem keeps_walk (v : Value) (ts : List (List UInt8)) (w : World) (hT : ReadsT w v ts) (hb : heavyT ts ≤ 16777216) :
    Calls Try.prog 6 #[v] w fun e w' => e = .returned (.bool true) ∧ Kept [] w w' := by
  have hlen := len_le_heavy ts
  have hnot : ∀ (x : Bool) (w : World), (Op.unary .not (.bool x)).run Try.prog w = .ok (.bool (!x)) w := fun _ _ => rfl
  obtain ⟨a, cap, rfl, h2, h3, -, h5⟩ := id hT
  have HT : Hid (ReadsT w (.slice a ts.length cap) ts) := hT
  clear hT
  go_enter Try.func6, Try.ntmps6
  go_wp2_with fail
  refine (awake_any _).mono ?_
  rintro e w1 ⟨rfl, k1⟩
  have B0 := Built.begin w1
  have hcell : ∀ k t, ts[k]? = some t → ∃ b o, a = some ⟨b, o, none⟩ ∧ w1.cell? ⟨b, o + k, none⟩ = some (T8 t) := by
    intro k t hk
    obtain ⟨b, o, rfl, hc⟩ := h5 (fun h => by subst h; simp at hk)
    have h6 := hc k t hk
    rw [← k1.cell (World.block_lt_of_cell? w _ h6) (by simp)] at h6
    exact ⟨b, o, rfl, h6⟩
  clear h5
  go_wp2_with fail
  go_loopw [3, 4, 21] (fun bv _ i wr => ∃ j : Nat, j ≤ ts.length ∧ i = .int .i64 (j : Int) ∧ Built w1 bv (encT (ts.take j)) wr) (fun _ _ i _ => ts.length - (intOf i).toNat)
  case atStart => exact ⟨0, Nat.zero_le _, rfl, B0⟩
  case round =>
    clear B0
    obtain ⟨j, hj, rfl, hB⟩ := hrel
    by_cases hlt : j < ts.length
    · have hlt2 : (j : Int) < (ts.length : Int) := by omega
      obtain ⟨t, ht⟩ : ∃ t, ts[j]? = some t := ⟨ts[j], by simp⟩
      obtain ⟨b, o, rfl, hc⟩ := hcell j t ht
      rw [← hB.kept.cell (World.block_lt_of_cell? w1 _ hc) (by simp)] at hc
      have htx := reftext_at _ ts j t w1 wr hB ht hb
      clear ht hcell
      go_wp2_with (go_at_call 15; refine htx.mono ?_; rintro e w3 ⟨v3, rfl, hB3⟩)
      go_roundw
      case rel => exact ⟨j + 1, by omega, by go_num, hB3⟩
      case measure => simp [intOf]; omega
    · have hlt2 : ¬ (j : Int) < (ts.length : Int) := by omega
      have hj2 : j = ts.length := by omega
      subst hj2
      rw [List.take_length] at hB
      have he := encT_le ts
      have hp := parse_encT ts hb
      generalize hn : encT ts = l at hB he hp
      have HN : Hid (encT ts = l) := hn
      clear hn hcell
      go_wp2_with fail
      refine (new_any _ l _ hB.own.reads (by omega)).mono ?_
      rintro e w3 ⟨p, u, rfl, hU, k3, hp3, hf3, hin3⟩
      have j3 := (k1.trans hB.kept (by simp)).trans k3 (by simp)
      have q3 : w.heap.size ≤ p := by have := (k1.trans hB.kept (by simp)).size; omega
      have hR3 := RowOf.bytes (hB.own.kept k3 (by simp))
      have bp : ∀ g, u3.ownBlock = some g → g ≠ p ∧ u.ownBlock ≠ some g ∧ w.heap.size ≤ g := fun g hg => ⟨fun h => by have := hB.own.lt hg; omega, fun h => by have := hB.own.lt hg; have := hf3 g h; omega, by have := hB.fresh g hg; have := k1.size; omega⟩
      clear hf3 hin3 hp3 k3 hB
      have K3 : Kept u3.ownBlock.toList w3 w3 := Kept.refl _ _
      obtain ⟨ab, cb, rfl, hb1, hb2, -⟩ := id hR3
      go_wp2_with fail
      go_loopw [6, 35] (fun _ i wr => ∃ j : Nat, j ≤ l.length ∧ i = .int .i64 (j : Int) ∧ Kept (Value.slice ab l.length cb).ownBlock.toList w3 wr ∧ RowOf wr (.slice ab l.length cb) l.length isByte) (fun _ i _ => l.length - (intOf i).toNat)
      case atStart => exact ⟨0, Nat.zero_le _, rfl, K3, hR3⟩
      case round =>
        clear K3 hR3
        obtain ⟨j, hj, rfl, K4, hR4⟩ := hrel
        by_cases hlt : j < l.length
        · have hlt3 : (j : Int) < (l.length : Int) := by omega
          obtain ⟨a', cap', hv, -, -, hc⟩ := id hR4
          injection hv with e1 e2 e3
          subst e1 e3
          obtain ⟨g, rfl, hcc⟩ := hc (by omega)
          obtain ⟨z, ⟨x, hx0, hx1, rfl⟩, hcz, hfz⟩ := hcc j hlt
          have hS := fun (y : Int) (h0 : 0 ≤ y) (h1 : y ≤ 255) => hR4.set (g := g) (j := j) rfl hlt (z := .int .u8 y) ⟨y, h0, h1, rfl⟩
          have hK := fun (y : Int) => K4.setCell (p := ⟨g, j, none⟩) (.inl (by simp [Value.ownBlock])) (.int .u8 y)
          clear hc hcc hR4 K4
          go_wp2_with fail
          exact ⟨⟨j + 1, by omega, by go_num, hK _, hS _ (by omega) (by omega)⟩, by simp [intOf]; omega⟩
        · have hlt3 : ¬ (j : Int) < (l.length : Int) := by omega
          have hm : ∀ g, g ∈ (Value.slice ab l.length cb).ownBlock.toList → g ≠ p ∧ u.ownBlock ≠ some g ∧ w.heap.size ≤ g := fun g hg => bp g (by rw [Option.mem_toList] at hg; exact hg)
          have hU4 : Unread wr p l u := hU.kept K4 (fun h => (hm p h).1 rfl) (fun g hg h => (hm g h).2.1 hg)
          have j4 : Kept [] w wr := j3.trans K4 (fun x hx => .inr (hm x hx).2.2)
          have hpl : ((parse l).getD []).length ≤ 16777216 := by rw [hp]; simp; omega
          have ht := texts_first p l u wr hU4 (by omega) hpl
          rw [hp] at ht
          simp only [Option.isSome_some, Option.getD_some] at ht
          clear hU hU4 hm bp hR4 K4 j3
          go_wp2_with fail
          refine ht.mono ?_
          rintro e w5 ⟨tv, xv, rfl, hox, hD, k5, hfx, hft, hxt, hxp⟩
          have j5 := j4.trans k5 (fun x hx => by simp at hx; subst hx; exact .inr q3)
          have hfx' : ∀ g, xv.ownBlock = some g → w.heap.size ≤ g := fun g hg => by have := hfx g hg; have := j4.size; omega
          have hR5 := RowOf.texts hox
          have K5 : Kept xv.ownBlock.toList w5 w5 := Kept.refl _ _
          obtain ⟨ax, cx, rfl, hb3, hb4, -⟩ := id hR5
          clear ht hox k5 hft hfx j4
          go_wp2_with fail
          go_loopw [9, 52] (fun _ i wr => ∃ j : Nat, j ≤ ts.length ∧ i = .int .i64 (j : Int) ∧ Kept (Value.slice ax ts.length cx).ownBlock.toList w5 wr ∧ RowOf wr (.slice ax ts.length cx) ts.length isText) (fun _ i _ => ts.length - (intOf i).toNat)
          case atStart => exact ⟨0, Nat.zero_le _, rfl, K5, hR5⟩
          case round =>
            clear K5 hR5
            obtain ⟨j, hj, rfl, K6, hR6⟩ := hrel
            by_cases hlt : j < ts.length
            · have hlt3 : (j : Int) < (ts.length : Int) := by omega
              obtain ⟨a', cap', hv, -, -, hc⟩ := id hR6
              injection hv with e1 e2 e3
              subst e1 e3
              obtain ⟨g, rfl, hcc⟩ := hc (by omega)
              obtain ⟨z, ⟨x, rfl⟩, hcz, hfz⟩ := hcc j hlt
              have hS := hR6.set (g := g) (j := j) rfl hlt (z := .string ⟨#[63]⟩) ⟨_, rfl⟩
              have hK := K6.setCell (p := ⟨g, j, none⟩) (.inl (by simp [Value.ownBlock])) (.string ⟨#[63]⟩)
              clear hc hcc hR6 K6
              go_wp2_with fail
              exact ⟨⟨j + 1, by omega, by go_num, hK, hS⟩, by simp [intOf]; omega⟩
            · have hlt3 : ¬ (j : Int) < (ts.length : Int) := by omega
              have hm : ∀ g, g ∈ (Value.slice ax ts.length cx).ownBlock.toList → (Value.slice ax ts.length cx).ownBlock = some g := fun g hg => by rw [Option.mem_toList] at hg; exact hg
              have hD6 : Done wr p l tv := hD.kept K6 (fun h => hxp (hm p h)) (fun g hg h => hxt g (hm g h) hg)
              have j6 : Kept [] w wr := j5.trans K6 (fun x hx => .inr (hfx' x (hm x hx)))
              have ht := texts_again p l tv wr hD6 hpl
              rw [hp] at ht
              simp only [Option.isSome_some, Option.getD_some] at ht
              clear hD hD6 hm hxp hxt hfx' hR6 K6 j5
              go_wp2_with fail
              refine ht.mono ?_
              rintro e w7 ⟨yv, rfl, hoy, k7, hfy⟩
              have j7 := j6.trans k7 (by simp)
              have hs := same_any yv _ ts ts w7 hoy.reads (HT.out.kept j7 (by simp)) (by omega) (by omega)
              rw [show decide (ts = ts) = true by simp] at hs
              clear ht hoy k7 hfy j6
              go_wp2_with fail
              refine (texts_nil _).mono ?_
              rintro e w8 ⟨rfl, rfl⟩
              go_wp2_with fail
              refine (at_nil 0 _).mono ?_
              rintro e w8 ⟨rfl, rfl⟩
              go_wp2_with fail
              refine hs.mono ?_
              rintro e w9 ⟨rfl, k9⟩
              have j9 := j7.trans k9 (by simp)
              clear hs k9 j7
              go_wp2_with fail
              refine (made_nil _).mono ?_
              rintro e w10 ⟨rfl, rfl⟩
              go_wp2_with fail
              refine (together_nil _ _).mono ?_
              rintro e w11 ⟨rfl, k11⟩
              have j11 := (j9.alloc _).trans k11 (by simp)
              clear j9 k11
              go_wp2_with fail
              go_ret
              exact ⟨rfl, j11⟩

end Go.Proofs.Ythbopephcdohkaa
