/-
  Room, Reset and Units.
-/
import Derived.Test.YtdcjaopmfccgbaaOpn
namespace Go.Proofs.Ytdcjaopmfccgbaa
open Go.RowKit
set_option linter.unusedVariables false

theorem room_nil (w : World) : Calls Try.prog 20 #[.pointer none] w fun e w' => e = .returned (.int .i64 0) ∧ w = w' := by
  go_enter Try.func20, Try.ntmps20
  go_wp2
  go_ret
  exact ⟨rfl, rfl⟩
theorem units_nil (w : World) : Calls Try.prog 19 #[.pointer none] w fun e w' => e = .returned (.slice none 0 0) ∧ w = w' := by
  go_enter Try.func19, Try.ntmps19
  go_wp2
  go_ret
  exact ⟨rfl, rfl⟩
theorem reset_nil (z : Int) (w : World) : Calls Try.prog 16 #[.pointer none, .int .u64 z] w fun e w' => e = .returned (.int .i64 1) ∧ w = w' := by
  go_enter Try.func16, Try.ntmps16
  go_wp2
  go_ret
  exact ⟨rfl, rfl⟩
theorem append_nil (v : Value) (w : World) : Calls Try.prog 14 #[.pointer none, v] w fun e w' => e = .returned (.int .i64 1) ∧ w = w' := by
  go_enter Try.func14, Try.ntmps14
  go_wp2
  go_ret
  exact ⟨rfl, rfl⟩
section
variable {w : World} {G : List Nat} {p q fr ct ep : Nat} {us : List (List UInt8)} {used : Nat} {over : Bool}
set_option maxRecDepth 100000 in
theorem room_any (h : IsL w G p q fr ct ep us used over) (hc : ct ≤ 65536) (hu : used ≤ ct) : Calls Try.prog 20 #[.pointer (some ⟨p, 0, none⟩)] w fun e w' => e = .returned (.int .i64 ((ct : Int) - (used : Int))) ∧ Kept [] w w' := by
  obtain ⟨c0, c1, c2, c3, c5, c6⟩ := h.cells
  have hw : IntKind.i64.wrap ((ct : Int) - (used : Int)) = (ct : Int) - (used : Int) := by rw [IntKind.wrap_i64]; omega
  clear h
  go_enter Try.func20, Try.ntmps20
  go_wp2_with fail
  go_region
  go_wp2
  go_ret
  exact ⟨rfl, (Kept.refl [] w).drew⟩
theorem reset_over (h : IsL w G p q fr ct ep us used true) (z : Int) : Calls Try.prog 16 #[.pointer (some ⟨p, 0, none⟩), .int .u64 z] w fun e w' => e = .returned (.int .i64 9) ∧ w = w' := by
  obtain ⟨c0, c1, c2, c3, c5, c6⟩ := h.cells
  clear h
  go_enter Try.func16, Try.ntmps16
  go_wp2
  go_ret
  exact ⟨rfl, rfl⟩
theorem reset_range (h : IsL w G p q fr ct ep us used false) (e : Nat) (he : e ≤ ep) : Calls Try.prog 16 #[.pointer (some ⟨p, 0, none⟩), .int .u64 (e : Int)] w fun e w' => e = .returned (.int .i64 3) ∧ w = w' := by
  obtain ⟨c0, c1, c2, c3, c5, c6⟩ := h.cells
  have hle : (e : Int) ≤ (ep : Int) := by omega
  clear h
  go_enter Try.func16, Try.ntmps16
  go_wp2
  go_ret
  exact ⟨rfl, rfl⟩
set_option maxRecDepth 100000 in
set_option maxHeartbeats 400000 in
theorem reset_ok (h : IsL w G p q fr ct ep us used false) (e : Nat) (he : ep < e) : Calls Try.prog 16 #[.pointer (some ⟨p, 0, none⟩), .int .u64 (e : Int)] w fun r w' => r = .returned (.int .i64 0) ∧ IsL w' [p] p q fr ct e [] 0 false ∧ Kept [p] w w' := by
  obtain ⟨c0, c1, c2, c3, c5, c6⟩ := h.cells
  obtain ⟨vu, vs, c4, ho, -⟩ := h.vlen
  obtain ⟨a4, cp4, rfl⟩ : ∃ a c, vu = .slice a us.length c := by
    rcases ho.2 with ⟨rfl, h0⟩ | ⟨g, cap, cur, rfl, _⟩
    · exact ⟨none, 0, by rw [h0]⟩
    · exact ⟨_, cap, rfl⟩
  have f3 := h.free 3
  have f4 := h.free 4
  have f5 := h.free 5
  have hfin := Hid.mk (h.reset e)
  have hle : ¬ (e : Int) ≤ (ep : Int) := by omega
  clear h ho
  go_enter Try.func16, Try.ntmps16
  go_wp2
  go_ret
  exact ⟨rfl, hfin.out⟩
end

/-- Block g is a row of n slices, of which the first are new memory that holds us. -/
def UR (w0 w : World) (g : Nat) (us : List (List UInt8)) (n : Nat) : Prop :=
  ∃ vs : List Value, vs.length = us.length ∧ us.length ≤ n ∧ w.heap[g]? = some (.cells (vs ++ List.replicate (n - us.length) (Value.slice none 0 0)).toArray 35 (0, 0)) ∧ (∀ (k : Nat) (l : List UInt8), us[k]? = some l → ∃ v, vs[k]? = some v ∧ Owns 5 w v l ∧ Fresh w0 v ∧ v.ownBlock ≠ some g)
theorem UR.kept {w0 w w' : World} {g n : Nat} {us : List (List UInt8)} (h : UR w0 w g us n) (k : Kept [] w w') : UR w0 w' g us n := by
  obtain ⟨vs, h1, h2, h3, h4⟩ := h
  refine ⟨vs, h1, h2, k.keeps h3 (by simp), fun i l hl => ?_⟩
  obtain ⟨v, a, b, c, d⟩ := h4 i l hl
  exact ⟨v, a, b.kept k (by simp), c, d⟩
theorem UR.lt {w0 w : World} {g n : Nat} {us : List (List UInt8)} (h : UR w0 w g us n) : g < w.heap.size := by
  obtain ⟨vs, h1, h2, h3, h4⟩ := h
  exact lt_of_block h3
theorem UR.spare {w0 w : World} {g n : Nat} {us : List (List UInt8)} (h : UR w0 w g us n) (hn : us.length < n) : w.cell? ⟨g, us.length, none⟩ = some (.slice none 0 0) ∧ w.frozen? ⟨g, us.length, none⟩ = false := by
  obtain ⟨vs, h1, h2, h3, h4⟩ := h
  constructor
  · simp only [World.cell?, h3, List.getElem?_toArray]
    rw [List.getElem?_append_right (by omega), h1, Nat.sub_self, show n - us.length = (n - us.length - 1) + 1 by omega, List.replicate_succ]
    rfl
  · simp [World.frozen?, h3]
theorem UR.at {w0 w : World} {g n : Nat} {us : List (List UInt8)} (h : UR w0 w g us n) (k : Nat) (l : List UInt8) (hl : us[k]? = some l) : ∃ a c, w.cell? ⟨g, k, none⟩ = some (.slice a l.length c) ∧ Owns 5 w (.slice a l.length c) l ∧ Fresh w0 (.slice a l.length c) ∧ (Value.slice a l.length c).ownBlock ≠ some g := by
  obtain ⟨vs, h1, h2, h3, h4⟩ := h
  obtain ⟨v, a, b, c, d⟩ := h4 k l hl
  obtain ⟨a', c', rfl⟩ := b.form
  refine ⟨a', c', ?_, b, c, d⟩
  simp only [World.cell?, h3, List.getElem?_toArray]
  rw [List.getElem?_append_left (List.getElem?_eq_some_iff.1 a).1]
  exact a
theorem UR.next {w0 w w1 : World} {g n : Nat} {us : List (List UInt8)} (h : UR w0 w g us n) (hn : us.length < n) (k : Kept [] w w1) (v : Value) (l : List UInt8) (hO : Owns 5 w1 v l) (hF : Fresh w v) (h0 : w0.heap.size ≤ w.heap.size) : UR w0 (w1.setCell ⟨g, us.length, none⟩ v) g (us ++ [l]) n := by
  have hg := h.lt
  have hne : v.ownBlock ≠ some g := fun e => by have := hF g e; omega
  obtain ⟨vs, h1, h2, h3, h4⟩ := h.kept k
  have k2 : Kept [g] w1 (w1.setCell ⟨g, us.length, none⟩ v) := (Kept.refl [g] w1).setCell (.inl (by simp)) _
  refine ⟨vs ++ [v], by simp [h1], by simp; omega, ?_, fun i m hm => ?_⟩
  · rw [heap_setCell_same w1 g us.length _ 35 _ h3]
    congr 2
    rw [show n - us.length = (n - (us ++ [l]).length) + 1 by simp; omega, List.replicate_succ]
    apply Array.toList_inj.1
    simp only [Array.toList_setIfInBounds, ← h1]
    rw [List.set_append_right _ _ (Nat.le_refl _), Nat.sub_self, List.set_cons_zero, List.append_assoc]
    rfl
  · by_cases hi : i < us.length
    · rw [List.getElem?_append_left hi] at hm
      obtain ⟨x, a, b, c, d⟩ := h4 i m hm
      exact ⟨x, by rw [List.getElem?_append_left (by omega)]; exact a, b.kept k2 (fun y hy => by simp; intro e; subst e; exact d hy), c, d⟩
    · have hlt := (List.getElem?_eq_some_iff.1 hm).1
      have hi2 : i = us.length := by simp at hlt; omega
      subst hi2
      simp at hm
      subst hm
      refine ⟨v, by rw [← h1]; simp, hO.kept k2 (fun y hy => by simp; intro e; subst e; exact hne hy), fun y hy => Nat.le_trans h0 (hF y hy), hne⟩
theorem make46 (n : Nat) (hn : n ≤ 65536) (W : World) : (Instr.makeSlice 46 (.int .i64 (n : Int)) (.int .i64 (n : Int))).run Try.prog W = .ok (.slice (some ⟨W.heap.size, 0, none⟩) n n) (W.alloc (.cells (Array.replicate n (.slice none 0 0)) 35)) := by
  obtain ⟨i0, hi, hz0, hz1, hz2⟩ := info_parts inf35
  have h := run_make (P := Try.prog) W 46 35 i0 _ Try.underlying46 hi hz0 .i64 .i64 (n : Int) (n : Int) (by omega) (by omega) (by rw [hz2]; omega) (by omega)
  rw [h]
  have e : madeCells (Value.slice none 0 0).cells ((n : Int).toNat * i0.size) = (Array.replicate n (.slice none 0 0)) := by
    rw [hz1]
    apply Array.toList_inj.1
    rw [show (Value.slice none 0 0).cells = #[.slice none 0 0] from rfl, toList_madeCells_one]
    simp
  rw [e]
  rfl

set_option maxRecDepth 100000 in
set_option maxHeartbeats 400000 in
/-- Units. -/
theorem units_any {w : World} {G : List Nat} {p q fr ct ep : Nat} {us : List (List UInt8)} {used : Nat} {over : Bool} (h : IsL w G p q fr ct ep us used over) (hn : us.length ≤ 65536) (hl : ∀ l ∈ us, l.length ≤ 60000) :
    Calls Try.prog 19 #[.pointer (some ⟨p, 0, none⟩)] w fun e w' => ∃ g, e = .returned (.slice (some ⟨g, 0, none⟩) us.length us.length) ∧ UR w w' g us us.length ∧ Kept [] w w' ∧ w.heap.size ≤ g := by
  obtain ⟨vu, vs, c4, ho, hvl, hrd⟩ := h.vlen
  obtain ⟨n, hnn⟩ : ∃ n, Hid (us.length = n) := ⟨_, rfl⟩
  rw [hnn.out] at ho hn ⊢
  have hmk := make46 n hn w
  have hown : Hid (w.ownsRow 0 35 1 vu n vs) := ho
  obtain ⟨av, cv, hvu, hcv⟩ : ∃ a c, vu = .slice a n c ∧ c ≤ 9223372036854775807 ∧ n ≤ c := by
    rcases ho.2 with ⟨rfl, h0⟩ | ⟨g, cap, cur, rfl, h1, h2, h3, h4, _⟩
    · exact ⟨none, 0, by rw [h0], by omega, by omega⟩
    · exact ⟨_, cap, rfl, h4, h3⟩
  subst hvu
  have k0 := (Kept.refl [] w).alloc (.cells (Array.replicate n (.slice none 0 0)) 35)
  have hU0 : UR w (w.alloc (.cells (Array.replicate n (.slice none 0 0)) 35)) w.heap.size [] n := ⟨[], rfl, Nat.zero_le _, by rw [heap_alloc_new]; simp, fun k l h => by simp at h⟩
  have c4' : (w.alloc (.cells (Array.replicate n (.slice none 0 0)) 35)).cell? ⟨p, 4, none⟩ = some (.slice av n cv) := by rw [k0.cell (World.block_lt_of_cell? _ _ c4) (by simp)]; exact c4
  clear h ho
  go_enter Try.func19, Try.ntmps19
  go_wp2_with fail
  generalize hw1 : w.alloc (.cells (Array.replicate n (.slice none 0 0)) 35) = w1 at k0 hU0 c4'
  generalize hg : w.heap.size = g at hU0
  clear hmk hw1
  go_loopw [19] (fun i wr => ∃ j : Nat, i = .int .i64 (j : Int) ∧ j ≤ n ∧ UR w wr g (us.take j) n ∧ Kept [] w wr) (fun i _ => n - (intOf i).toNat)
  case atStart => exact ⟨0, rfl, Nat.zero_le _, hU0, k0⟩
  case round =>
    clear hU0 k0 c4 c4'
    obtain ⟨j, rfl, hj, hU, hK⟩ := hrel
    by_cases hlt : j < n
    · have hlt2 : (j : Int) < (n : Int) := by omega
      obtain ⟨l, hl'⟩ : ∃ l, us[j]? = some l := ⟨us[j]'(by rw [hnn.out]; exact hlt), by simp⟩
      obtain ⟨v, hv, hr⟩ := hrd j l hl'
      have hr' := hr.kept hK (by simp)
      obtain ⟨va, vc, rfl, _⟩ := id hr'
      have hcl := clone_any _ l wr hr' (by have := hl l (List.mem_of_getElem? hl'); omega)
      have hlen : (us.take j).length = j := by rw [List.length_take, hnn.out]; omega
      have hcell : ∃ b, av = some ⟨b, 0, none⟩ ∧ wr.cell? ⟨b, j, none⟩ = some (.slice va l.length vc) := by
        have hcc := fun g hg => World.ownsRow.cells hown.out (g := g) hg
        rcases hown.out.2 with ⟨he, h0⟩ | ⟨b, cap, cur, he, _, hb, _⟩
        · omega
        · injection he with e1 e2 e3
          subst e1
          refine ⟨b, rfl, ?_⟩
          have := hcc b rfl j _ hv
          rw [add_at, Nat.zero_add] at this
          rw [hK.cell (World.block_lt_of_cell? _ _ this) (by simp)]
          exact this
      obtain ⟨b, rfl, hcb⟩ := hcell
      have hsp := hU.spare (by omega)
      rw [hlen] at hsp
      obtain ⟨s1, s2⟩ := hsp
      have HU := Hid.mk hU
      have HK := Hid.mk hK
      have hglt := hU.lt
      clear hr hr' hv hU hK hrd
      go_wp2_with fail
      refine hcl.mono ?_
      rintro e w2 ⟨v2, rfl, hO2, k2, f2⟩
      have HU2 : Hid (UR w (w2.setCell ⟨g, j, none⟩ v2) g (us.take (j + 1)) n) := by
        have := HU.out.next (by omega) k2 v2 l hO2 f2 HK.out.size
        rw [hlen, take_snoc_unit hl'] at this
        exact this
      have HK2 : Hid (Kept [] w (w2.setCell ⟨g, j, none⟩ v2)) := (HK.out.trans k2 (by simp)).setCell (.inr (by show w.heap.size ≤ g; omega)) _
      have t1 : w2.cell? ⟨g, j, none⟩ = some (.slice none 0 0) := by rw [k2.cell hglt (by simp)]; exact s1
      have t2 : w2.frozen? ⟨g, j, none⟩ = false := by
        obtain ⟨_, _, _, h3, _⟩ := HU.out.kept k2
        simp [World.frozen?, h3]
      obtain ⟨a2, c2, rfl⟩ := hO2.form
      clear HU HK hO2 k2 f2 s1 s2 hcb hcl
      go_wp2
      go_roundw
      case rel => exact ⟨j + 1, by go_num, by omega, HU2.out, HK2.out⟩
      case measure => simp [intOf]; omega
    · have hj2 : j = n := by omega
      subst hj2
      have hlt2 : ¬ (j : Int) < (j : Int) := by omega
      rw [List.take_of_length_le (by rw [hnn.out]; omega)] at hU
      have HU := Hid.mk hU
      have HK := Hid.mk hK
      clear hU hK
      go_wp2
      go_ret
      exact ⟨g, rfl, HU.out, HK.out, by omega⟩
end Go.Proofs.Ytdcjaopmfccgbaa
