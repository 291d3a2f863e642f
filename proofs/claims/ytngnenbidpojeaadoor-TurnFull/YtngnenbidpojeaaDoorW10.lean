import Derived.Test.YtngnenbidpojeaaDoorW05
import Derived.Test.YtngnenbidpojeaaDoorW06
import Derived.Test.YtngnenbidpojeaaDoorW07
import Derived.Test.YtngnenbidpojeaaDoorW08
import Derived.Test.YtngnenbidpojeaaDoorW09
/-
  Decode, and the document's.
-/
namespace Go.Proofs.YtngnenbidpojeaaDoor
open Go.RowKit
set_option linter.unusedVariables false
section
variable {w : World}
set_option maxRecDepth 100000 in
set_option maxHeartbeats 1000000 in
theorem decode18 (v : Value) (l : List UInt8) (hr : Reads w v l) (hl : l.length ≤ 140737488355328) : Calls Tryd.prog 94 #[v] w fun e w' => DecAt w l e w' := by
  go_enter Tryd.func94, Tryd.ntmps94
  go_wp2_with fail
  obtain ⟨W0, e0, k0, hz0, hb0⟩ := box1 w (.cells #[.string ⟨#[]⟩, .int .u64 0, .int .i64 0, .slice none 0 0] 25)
  rw [e0]
  clear e0
  refine (newr_in v l W0 (hr.kept k0 (by simp)) hl).mono ?_
  rintro e w1 ⟨p, v1, rfl, hR1, k1, hf1, hp1, hin⟩
  go_wp2_with fail
  refine (read34 p v1 l false hR1 hin).mono ?_
  rintro e w2 ⟨x, a, c, rfl, hx, hO, hF, v2, hR2, k2, hV2⟩
  have k12 : Kept [] W0 w2 := k1.trans k2 (fun y hy => by simp at hy; subst hy; exact .inr hp1)
  have hb2 := k12.keeps hb0 (by simp)
  have HX := Hid.mk hx
  clear hx
  have HD : Hid (decL l = if (!(rlet l false).2.2 && (rlet l false).2.1.isEmpty) = true then (rlet l false).1 else none) := rfl
  generalize rlet l false = r at HX HD hR2
  have k02 := k0.trans k12 (by simp)
  have hF2 : Fresh w (.slice a x.args.length c) := fun g hg => by have := hF g hg; have := k1.size; have := k0.size; omega
  have hF2' : ∀ g, (Value.slice a x.args.length c).ownBlock = some g → w.heap.size < g := fun g hg => by have := hF g hg; have := k1.size; omega
  have kW := (Kept.refl [] w2).alloc (.cells #[Sv x.fr, .int .u64 (x.ser : Int), .int .i64 x.kind, .slice a x.args.length c] 25)
  have hb3 := kW.keeps hb2 (by simp)
  have hlt := lt_of_block hb2
  obtain ⟨d0, d1, d2, d3⟩ := cells4 hb2
  obtain ⟨g0, g1, g2, g3⟩ := free4 hb2
  clear hF k12 hb0 k1 k2 hz0 hr
  obtain ⟨r1, r2, r3⟩ := r
  dsimp only at HX HD hR2
  cases r1 with
  | none =>
    dsimp only [Option.isSome]
    go_wp2_with fail
    obtain ⟨W5, e5, k5, hb5, -⟩ := put4 hb2 (.string ⟨#[]⟩) (.int .u64 0) (.int .i64 0) (.slice none 0 0)
    rw [e5]
    clear e5
    have kV := (Kept.refl [] W5).alloc (.cells #[Sv x.fr, .int .u64 (x.ser : Int), .int .i64 x.kind, .slice a x.args.length c] 25)
    refine bodyPost_ret (results_cell_row2 (p := 2) (u := 3) (ty := 25) rfl _ _ w.heap.size 25 _ (0, 0) _ rfl (kV.keeps hb5 (by simp)) Tryd.underlying25 rfl (by kernel_rfl) _ rfl) rfl ?_
    refine decAt_none (by rw [HD.out]; simp) ((k02.trans k5 (fun y hy => by simp at hy; subst hy; exact .inr (Nat.le_refl _))).trans kV (by simp))
  | some y =>
    obtain rfl := HX.out y rfl
    dsimp only [Option.isSome]
    go_wp2_with fail
    obtain ⟨W3, e3, -, hz3, hb4⟩ := box1 w2 (.cells #[Sv x.fr, .int .u64 (x.ser : Int), .int .i64 x.kind, .slice a x.args.length c] 25)
    rw [e3] at hb3 kW
    rw [e3]
    clear e3 d0 d1 d2 d3 g0 g1 g2 g3 hb2
    have hR3 := hR2.kept kW (by simp) (by simp)
    refine (end_any p v2 _ _ _ hR3).mono ?_
    rintro e w4 ⟨rfl, rfl⟩
    obtain ⟨d0, d1, d2, d3⟩ := cells4 hb3
    obtain ⟨g0, g1, g2, g3⟩ := free4 hb3
    obtain ⟨c0, c1, c2, c3⟩ := cells4 hb4
    cases hq : (!r3 && r2.isEmpty) with
    | false =>
      rw [hq] at HD
      clear hq
      go_wp2_with fail
      obtain ⟨W5, e5, k5, hb5, -⟩ := put4 hb3 (.string ⟨#[]⟩) (.int .u64 0) (.int .i64 0) (.slice none 0 0)
      rw [e5]
      clear e5
      refine bodyPost_ret (results_cell_row2 (p := 2) (u := 3) (ty := 25) rfl _ _ w.heap.size 25 _ (0, 0) _ rfl hb5 Tryd.underlying25 rfl (by kernel_rfl) _ rfl) rfl ?_
      refine decAt_none (by rw [HD.out]; simp) ((k02.trans kW (by simp)).trans k5 (fun y hy => by simp at hy; subst hy; exact .inr (Nat.le_refl _)))
    | true =>
      rw [hq] at HD
      clear hq
      go_wp2_with fail
      obtain ⟨W5, e5, k5, hb5, -⟩ := put4 hb3 (Sv x.fr) (.int .u64 (x.ser : Int)) (.int .i64 x.kind) (.slice a x.args.length c)
      rw [e5]
      clear e5
      refine bodyPost_ret (results_cell_row2 (p := 2) (u := 3) (ty := 25) rfl _ _ w.heap.size 25 _ (0, 0) _ rfl hb5 Tryd.underlying25 rfl (by kernel_rfl) _ rfl) rfl ?_
      refine decAt_some (by rw [HD.out]; simp) ((hO.kept kW (by simp)).kept k5 (fun g hg hm => ?_)) ((k02.trans kW (by simp)).trans k5 (fun y hy => by simp at hy; subst hy; exact .inr (Nat.le_refl _))) hF2
      have := hF2' g hg
      simp at hm
      omega
end
end Go.Proofs.YtngnenbidpojeaaDoor
/-
  Encode, and the document's Lay and Encode.
-/
namespace Go.Proofs.YtngnenbidpojeaaDoor
open Go.RowKit
set_option linter.unusedVariables false
section
variable {w : World}
set_option maxRecDepth 100000 in
set_option maxHeartbeats 1000000 in
theorem encode11 (x : Lt) (a : Option Addr) (c : Nat) (hx : ReadsJ w (.slice a x.args.length c) x.args) (hok : x.ok) :
    Calls Tryd.prog 74 #[Lv x a c] w fun e w' => TwoB w (encB x) (encE x) e w' := by
  have HX := Hid.mk hx
  clear hx
  have k0 := (Kept.refl [] w).alloc (.cells #[Sv x.fr, .int .u64 (x.ser : Int), .int .i64 x.kind, .slice a x.args.length c] 25)
  have HF : Hid (∀ W, Calls Tryd.prog 18 #[Lv x a c] W fun e w' => e = .returned (.bool x.formed) ∧ Kept [] W w') := fun W => formed13 x a c
  cases hf : x.formed with
  | false =>
    have hq : encB x = [] ∧ encE x = 1 := by simp [encB, encE, hf]
    rw [hq.1, hq.2]
    clear hq
    rw [hf] at HF
    clear hf
    go_enter Tryd.func74, Tryd.ntmps74
    go_wp2_with fail
    refine (HF.out _).mono ?_
    rintro e w1 ⟨rfl, k1⟩
    go_wp2_with fail
    go_ret2
    exact ⟨_, rfl, Owns.nil 5 _, k0.trans k1 (by simp), fresh_nil w 0⟩
  | true =>
    have hq : encB x = encL x ∧ encE x = 0 := by simp [encB, encE, hf]
    rw [hq.1, hq.2]
    clear hq
    have hf2 : x.fr.length ≤ 40 ∧ x.args.length ≤ 4 := by simpa [Lt.formed] using hf
    obtain ⟨hf3, hf4⟩ := hf2
    have hel := encL_length x
    rw [hf] at HF
    clear hf
    go_enter Tryd.func74, Tryd.ntmps74
    go_wp2_with fail
    obtain ⟨W0, e0, -, hz0, hb0⟩ := box1 w (.cells #[Sv x.fr, .int .u64 (x.ser : Int), .int .i64 x.kind, .slice a x.args.length c] 25)
    rw [e0] at k0
    rw [e0]
    clear e0
    refine (HF.out _).mono ?_
    rintro e w1 ⟨rfl, k1⟩
    go_wp2_with fail
    refine (newW _).mono ?_
    rintro e w2 ⟨p, rfl, hW2, k2, hp2⟩
    have hb2 := k2.keeps (k1.keeps hb0 (by simp)) (by simp)
    have k02 := (k0.trans k1 (by simp)).trans k2 (by simp)
    obtain ⟨c0, c1, c2, c3⟩ := cells4 hb2
    have hsz := k1.size
    go_wp2_with fail
    refine (lay27 p _ [] x a c hW2 (HX.out.kept k02 (by simp)) (fun hne g hg hm => ?_) hok (by simp; omega)).mono ?_
    · have := HX.out.ltg hne hg
      have := k0.size
      rw [foot_nil] at hm
      simp at hm
      omega
    rintro e w3 ⟨rfl, v3, hW3, k3, n3⟩
    rw [List.nil_append] at hW3
    rw [foot_nil] at k3
    go_wp2_with fail
    refine (wbytes_any p _ _ _ hW3 (by omega)).mono ?_
    rintro e w4 ⟨v4, rfl, hO4, k4, hF4⟩
    go_wp2_with fail
    go_ret2
    have k23 : Kept [] w w3 := k02.trans k3 (by simp; omega)
    refine ⟨v4, rfl, hO4, k23.trans k4 (by simp), fun g hg => ?_⟩
    have := hF4 g hg
    have := k23.size
    omega
end
end Go.Proofs.YtngnenbidpojeaaDoor
/-
  An outbox in memory: a block of an owner, 64 targets, 32 letters on their way, and how many there are of each.
-/
namespace Go.Proofs.YtngnenbidpojeaaDoor
set_option maxRecDepth 100000
open Go.RowKit
set_option linter.unusedVariables false
/-- A number as a cell. -/
abbrev Uv (n : Nat) : Value := .int .u64 (n : Int)
/-- A letter on its way, and where its Args lie. -/
structure Yq where
  to : List UInt8
  q : Lq
instance : Inhabited Yq := ⟨⟨[], default⟩⟩
def ot (y : Yq) : Ot := ⟨y.to, y.q.x⟩
/-- Its cells. -/
def cellsY (y : Yq) : List Value := [Sv y.to, Sv y.q.x.fr, .int .u64 (y.q.x.ser : Int), .int .i64 y.q.x.kind, y.q.sl]
/-- A letter on its way, as a value. -/
abbrev Yv (to : List UInt8) (x : Lt) (a : Option Addr) (c : Nat) : Value := .agg #[Sv to, Sv x.fr, .int .u64 (x.ser : Int), .int .i64 x.kind, .slice a x.args.length c]
def CY (l : List Yq) : List (List Value) := l.map cellsY
theorem CY_length (l : List Yq) : (CY l).length = l.length := by simp [CY]
theorem CY_append (a b : List Yq) : CY (a ++ b) = CY a ++ CY b := by simp [CY]
theorem CY_wide (l : List Yq) : Wide 5 (CY l) := fun r hr => by
  obtain ⟨x, _, rfl⟩ := List.mem_map.1 hr
  refine ⟨rfl, fun v hv => ?_⟩
  simp [cellsY] at hv
  rcases hv with rfl | rfl | rfl | rfl | rfl <;> rfl
/-- A target's cells. -/
def cellsK (y : La) : List Value := [Sv y.k, Uv y.s]
def CK (l : List La) : List (List Value) := l.map cellsK
theorem CK_length (l : List La) : (CK l).length = l.length := by simp [CK]
theorem CK_wide (l : List La) : Wide 2 (CK l) := fun r hr => by
  obtain ⟨x, _, rfl⟩ := List.mem_map.1 hr
  refine ⟨rfl, fun v hv => ?_⟩
  simp [cellsK] at hv
  rcases hv with rfl | rfl <;> rfl
/-- What the 291 cells say. -/
structure CellsO (cs : List Value) (own : List UInt8) (K : List La) (qs : List Yq) : Prop where
  len : cs.length = 291
  own : cs[0]? = some (Sv own)
  ks : ∀ (j : Nat) (y : La), K[j]? = some y → ∀ (i : Nat) (v : Value), (cellsK y)[i]? = some v → cs[1 + j * 2 + i]? = some v
  kn : cs[129]? = some (.int .i64 (K.length : Int))
  ys : ∀ (j : Nat) (y : Yq), qs[j]? = some y → ∀ (i : Nat) (v : Value), (cellsY y)[i]? = some v → cs[130 + j * 5 + i]? = some v
  yn : cs[290]? = some (.int .i64 (qs.length : Int))
  one : ∀ v ∈ cs, v.oneCell' = true
theorem set_one {cs : List Value} {i : Nat} {x : Value} (h : ∀ v ∈ cs, v.oneCell' = true) (hx : x.oneCell' = true) : ∀ v ∈ cs.set i x, v.oneCell' = true := fun v hv => by
  rcases List.mem_or_eq_of_mem_set hv with h1 | h1
  · exact h v h1
  · subst h1; exact hx
theorem wide_one {k : Nat} {rs : List (List Value)} (h : Wide k rs) : ∀ v ∈ rs.flatten, v.oneCell' = true := fun v hv => by
  obtain ⟨r, hr, hv⟩ := List.mem_flatten.1 hv
  exact (h r hr).2 v hv
theorem over_one {cs L : List Value} {m n : Nat} (h : ∀ v ∈ cs, v.oneCell' = true) (hL : ∀ v ∈ L, v.oneCell' = true) : ∀ v ∈ cs.take m ++ L ++ cs.drop n, v.oneCell' = true := fun v hv => by
  rcases List.mem_append.1 hv with hv | hv
  · rcases List.mem_append.1 hv with hv | hv
    · exact h v (List.mem_of_mem_take hv)
    · exact hL v hv
  · exact h v (List.mem_of_mem_drop hv)
theorem cellsK_lt {y : La} {i : Nat} {v : Value} (h : (cellsK y)[i]? = some v) : i < 2 := (List.getElem?_eq_some_iff.1 h).1
theorem cellsY_lt {y : Yq} {i : Nat} {v : Value} (h : (cellsY y)[i]? = some v) : i < 5 := (List.getElem?_eq_some_iff.1 h).1
theorem get_lt {α : Type} {l : List α} {j : Nat} {y : α} (h : l[j]? = some y) : j < l.length := (List.getElem?_eq_some_iff.1 h).1
/-- The outbox at block p: its owner, its targets, its letters. -/
structure IsO (w : World) (p : Nat) (own : List UInt8) (K : List La) (qs : List Yq) : Prop where
  box : ∃ cs, w.heap[p]? = some (.cells cs.toArray 94 (0, 0)) ∧ CellsO cs own K qs
  kn : K.length ≤ 64
  ln : qs.length ≤ 32
  args : ∀ y ∈ qs, OwnsJ w y.q.sl y.q.x.args
section
variable {w w' : World} {p : Nat} {own : List UInt8} {K : List La} {qs : List Yq}
theorem ownsJ_type {v : Value} {l : List Int} (h : OwnsJ w v l) {g : Nat} (hg : v.ownBlock = some g) : ∃ cs, w.heap[g]? = some (.cells cs 2 (0, 0)) := by
  rcases h.2 with ⟨rfl, _⟩ | ⟨g1, cap, cur, rfl, _, hb, _⟩
  · simp [Value.ownBlock] at hg
  · simp [Value.ownBlock] at hg
    subst hg
    exact ⟨_, hb⟩
theorem ownsJ_ne {v : Value} {l : List Int} (h : OwnsJ w v l) {p : Nat} {cs : Array Value} {t : TypeId} {fz : Nat × Nat} (hp : w.heap[p]? = some (.cells cs t fz)) (ht : t ≠ 2) : v.ownBlock ≠ some p := fun hg => by
  obtain ⟨cs', h'⟩ := ownsJ_type h hg
  rw [h'] at hp
  injection hp with hp
  injection hp with _ hp _
  exact ht hp.symm
theorem IsO.lt (h : IsO w p own K qs) : p < w.heap.size := by obtain ⟨cs, hb, _⟩ := h.box; exact lt_of_block hb
theorem IsO.kept {S : List Nat} (h : IsO w p own K qs) (k : Kept S w w') (hp : p ∉ S) (hq : ∀ y ∈ qs, ∀ g, y.q.sl.ownBlock = some g → g ∉ S) : IsO w' p own K qs := by
  obtain ⟨cs, hb, hc⟩ := h.box
  exact ⟨⟨cs, k.keeps hb hp, hc⟩, h.kn, h.ln, fun y hm => (h.args y hm).kept k (hq y hm)⟩
theorem IsO.kept0 (h : IsO w p own K qs) (k : Kept [] w w') : IsO w' p own K qs := h.kept k (by simp) (by simp)
theorem IsO.cell {cs : List Value} {t : TypeId} (hb : w.heap[p]? = some (.cells cs.toArray t (0, 0))) {i : Nat} {v : Value} (hi : cs[i]? = some v) : w.cell? ⟨p, i, none⟩ = some v := by
  unfold World.cell?
  rw [hb]
  simpa using hi
theorem IsO.free (h : IsO w p own K qs) (i : Nat) : w.frozen? ⟨p, i, none⟩ = false := by
  obtain ⟨cs, hb, _⟩ := h.box
  simp [World.frozen?, hb]
theorem IsO.owner (h : IsO w p own K qs) : w.cell? ⟨p, 0, none⟩ = some (Sv own) := by
  obtain ⟨cs, hb, hc⟩ := h.box
  exact IsO.cell hb hc.own
theorem IsO.known (h : IsO w p own K qs) : w.cell? ⟨p, 129, none⟩ = some (.int .i64 (K.length : Int)) := by
  obtain ⟨cs, hb, hc⟩ := h.box
  exact IsO.cell hb hc.kn
theorem IsO.count (h : IsO w p own K qs) : w.cell? ⟨p, 290, none⟩ = some (.int .i64 (qs.length : Int)) := by
  obtain ⟨cs, hb, hc⟩ := h.box
  exact IsO.cell hb hc.yn
theorem IsO.key (h : IsO w p own K qs) {j : Nat} {y : La} (hj : K[j]? = some y) : w.cell? ⟨p, 1 + j * 2, none⟩ = some (Sv y.k) ∧ w.cell? ⟨p, 1 + j * 2 + 1, none⟩ = some (Uv y.s) := by
  obtain ⟨cs, hb, hc⟩ := h.box
  exact ⟨IsO.cell hb (hc.ks j y hj 0 _ rfl), IsO.cell hb (hc.ks j y hj 1 _ rfl)⟩
theorem IsO.at (h : IsO w p own K qs) {j : Nat} {y : Yq} (hj : qs[j]? = some y) : w.cell? ⟨p, 130 + j * 5, none⟩ = some (Sv y.to) ∧ w.cell? ⟨p, 130 + j * 5 + 1, none⟩ = some (Sv y.q.x.fr) ∧ w.cell? ⟨p, 130 + j * 5 + 2, none⟩ = some (.int .u64 (y.q.x.ser : Int)) ∧ w.cell? ⟨p, 130 + j * 5 + 3, none⟩ = some (.int .i64 y.q.x.kind) ∧ w.cell? ⟨p, 130 + j * 5 + 4, none⟩ = some y.q.sl := by
  obtain ⟨cs, hb, hc⟩ := h.box
  exact ⟨IsO.cell hb (hc.ys j y hj 0 _ rfl), IsO.cell hb (hc.ys j y hj 1 _ rfl), IsO.cell hb (hc.ys j y hj 2 _ rfl), IsO.cell hb (hc.ys j y hj 3 _ rfl), IsO.cell hb (hc.ys j y hj 4 _ rfl)⟩
theorem IsO.any (h : IsO w p own K qs) {i : Nat} (hi : i < 291) : ∃ v, w.cell? ⟨p, i, none⟩ = some v := by
  obtain ⟨cs, hb, hc⟩ := h.box
  exact ⟨_, IsO.cell hb (List.getElem?_eq_getElem (by rw [hc.len]; exact hi))⟩
theorem IsO.rowY (h : IsO w p own K qs) : ReadsR 5 w (.slice (some ⟨p, 130, none⟩) qs.length 32) (CY qs) := by
  obtain ⟨cs, hb, hc⟩ := h.box
  refine ⟨some ⟨p, 130, none⟩, 32, by rw [CY_length], by rw [CY_length]; exact h.ln, by unfold maxLen; omega, by simp, fun _ => ⟨p, 130, rfl, fun j r hr i x hx => ?_⟩⟩
  rw [CY, List.getElem?_map, Option.map_eq_some_iff] at hr
  obtain ⟨q, hq, rfl⟩ := hr
  exact IsO.cell hb (hc.ys j q hq i x hx)
end
/-- The cells of a new one. -/
def zeroO (own : List UInt8) : List Value := Sv own :: ((CK (List.replicate 64 ⟨[], 0⟩)).flatten ++ (.int .i64 0 :: ((CY (List.replicate 32 ⟨[], ⟨⟨[], 0, 0, []⟩, none, 0⟩⟩)).flatten ++ [.int .i64 0])))
theorem cellsO_new (own : List UInt8) : CellsO (zeroO own) own [] [] := by
  refine ⟨by simp [zeroO, CK, CY, cellsK, cellsY], rfl, by simp, ?_, by simp, ?_, fun v hv => ?_⟩
  · rfl
  · rfl
  · unfold zeroO at hv
    rcases List.mem_cons.1 hv with rfl | hv
    · rfl
    · rcases List.mem_append.1 hv with hv | hv
      · exact wide_one (CK_wide _) v hv
      · rcases List.mem_cons.1 hv with rfl | hv
        · rfl
        · rcases List.mem_append.1 hv with hv | hv
          · exact wide_one (CY_wide _) v hv
          · simp at hv; subst hv; rfl
/-- Cells that are stored elsewhere. -/
theorem CellsO.setK {cs : List Value} {own : List UInt8} {K : List La} {qs : List Yq} (h : CellsO cs own K qs) (hK : K.length ≤ 64) (hq : qs.length ≤ 32) {j : Nat} {y : La} (hj : K[j]? = some y) (s : Nat) : CellsO (cs.set (1 + j * 2 + 1) (Uv s)) own (K.set j ⟨y.k, s⟩) qs := by
  have hlt := get_lt hj
  refine ⟨by rw [List.length_set]; exact h.len, by rw [List.getElem?_set_ne (by omega)]; exact h.own, fun i z hz m v hv => ?_, by rw [List.getElem?_set_ne (by omega), List.length_set]; exact h.kn, fun i z hz m v hv => ?_, by rw [List.getElem?_set_ne (by omega)]; exact h.yn, set_one h.one rfl⟩
  · have hm := cellsK_lt hv
    by_cases hij : j = i
    · subst hij
      rw [List.getElem?_set_self hlt] at hz
      injection hz with hz
      subst hz
      match m, hm with
      | 0, _ =>
        rw [List.getElem?_set_ne (by omega)]
        exact h.ks j y hj 0 v hv
      | 1, _ =>
        rw [List.getElem?_set_self (by have := h.len; omega)]
        exact hv
    · rw [List.getElem?_set_ne hij] at hz
      rw [List.getElem?_set_ne (by omega)]
      exact h.ks i z hz m v hv
  · rw [List.getElem?_set_ne (by omega)]
    exact h.ys i z hz m v hv
end Go.Proofs.YtngnenbidpojeaaDoor
