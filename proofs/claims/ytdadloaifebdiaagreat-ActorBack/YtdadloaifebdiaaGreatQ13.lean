import Derived.Test.YtdadloaifebdiaaGreatQ05
import Derived.Test.YtdadloaifebdiaaGreatQ10
import Derived.Test.YtdadloaifebdiaaGreatQ12
/-
  An outbox in memory: a block of an owner, 64 targets, 32 letters on their way, and how many there are of each.
-/
namespace Go.Proofs.YtdadloaifebdiaaGreat
set_option maxRecDepth 100000
open Go.RowKit
set_option linter.unusedVariables false
/-- A number as a cell. -/
abbrev Uv (n : Nat) : Value := .int .u64 (n : Int)
/-- A letter on its way, and where its Args lie. -/
structure Yq where
  to : List UInt8
  q : Lq
instance : Inhabited Yq := ⟨⟨[], default⟩⟩
def ot (y : Yq) : Ot := ⟨y.to, y.q.x⟩
/-- Its cells. -/
def cellsY (y : Yq) : List Value := [Sv y.to, Sv y.q.x.fr, .int .u64 (y.q.x.ser : Int), .int .i64 y.q.x.kind, y.q.sl]
/-- A letter on its way, as a value. -/
abbrev Yv (to : List UInt8) (x : Lt) (a : Option Addr) (c : Nat) : Value := .agg #[Sv to, Sv x.fr, .int .u64 (x.ser : Int), .int .i64 x.kind, .slice a x.args.length c]
def CY (l : List Yq) : List (List Value) := l.map cellsY
theorem CY_length (l : List Yq) : (CY l).length = l.length := by simp [CY]
theorem CY_append (a b : List Yq) : CY (a ++ b) = CY a ++ CY b := by simp [CY]
theorem CY_wide (l : List Yq) : Wide 5 (CY l) := fun r hr => by
  obtain ⟨x, _, rfl⟩ := List.mem_map.1 hr
  refine ⟨rfl, fun v hv => ?_⟩
  simp [cellsY] at hv
  rcases hv with rfl | rfl | rfl | rfl | rfl <;> rfl
/-- A target's cells. -/
def cellsK (y : La) : List Value := [Sv y.k, Uv y.s]
def CK (l : List La) : List (List Value) := l.map cellsK
theorem CK_length (l : List La) : (CK l).length = l.length := by simp [CK]
theorem CK_append (a b : List La) : CK (a ++ b) = CK a ++ CK b := by simp [CK]
theorem CK_wide (l : List La) : Wide 2 (CK l) := fun r hr => by
  obtain ⟨x, _, rfl⟩ := List.mem_map.1 hr
  refine ⟨rfl, fun v hv => ?_⟩
  simp [cellsK] at hv
  rcases hv with rfl | rfl <;> rfl
/-- What the 291 cells say. -/
structure CellsO (cs : List Value) (own : List UInt8) (K : List La) (qs : List Yq) : Prop where
  len : cs.length = 291
  own : cs[0]? = some (Sv own)
  ks : ∀ (j : Nat) (y : La), K[j]? = some y → ∀ (i : Nat) (v : Value), (cellsK y)[i]? = some v → cs[1 + j * 2 + i]? = some v
  kn : cs[129]? = some (.int .i64 (K.length : Int))
  ys : ∀ (j : Nat) (y : Yq), qs[j]? = some y → ∀ (i : Nat) (v : Value), (cellsY y)[i]? = some v → cs[130 + j * 5 + i]? = some v
  yn : cs[290]? = some (.int .i64 (qs.length : Int))
  one : ∀ v ∈ cs, v.oneCell' = true
theorem set_one {cs : List Value} {i : Nat} {x : Value} (h : ∀ v ∈ cs, v.oneCell' = true) (hx : x.oneCell' = true) : ∀ v ∈ cs.set i x, v.oneCell' = true := fun v hv => by
  rcases List.mem_or_eq_of_mem_set hv with h1 | h1
  · exact h v h1
  · subst h1; exact hx
theorem wide_one {k : Nat} {rs : List (List Value)} (h : Wide k rs) : ∀ v ∈ rs.flatten, v.oneCell' = true := fun v hv => by
  obtain ⟨r, hr, hv⟩ := List.mem_flatten.1 hv
  exact (h r hr).2 v hv
theorem over_one {cs L : List Value} {m n : Nat} (h : ∀ v ∈ cs, v.oneCell' = true) (hL : ∀ v ∈ L, v.oneCell' = true) : ∀ v ∈ cs.take m ++ L ++ cs.drop n, v.oneCell' = true := fun v hv => by
  rcases List.mem_append.1 hv with hv | hv
  · rcases List.mem_append.1 hv with hv | hv
    · exact h v (List.mem_of_mem_take hv)
    · exact hL v hv
  · exact h v (List.mem_of_mem_drop hv)
theorem cellsK_lt {y : La} {i : Nat} {v : Value} (h : (cellsK y)[i]? = some v) : i < 2 := (List.getElem?_eq_some_iff.1 h).1
theorem cellsY_lt {y : Yq} {i : Nat} {v : Value} (h : (cellsY y)[i]? = some v) : i < 5 := (List.getElem?_eq_some_iff.1 h).1
theorem get_lt {α : Type} {l : List α} {j : Nat} {y : α} (h : l[j]? = some y) : j < l.length := (List.getElem?_eq_some_iff.1 h).1
/-- The outbox at block p: its owner, its targets, its letters. -/
structure IsO (w : World) (p : Nat) (own : List UInt8) (K : List La) (qs : List Yq) : Prop where
  box : ∃ cs, w.heap[p]? = some (.cells cs.toArray 159 (0, 0)) ∧ CellsO cs own K qs
  kn : K.length ≤ 64
  ln : qs.length ≤ 32
  args : ∀ y ∈ qs, OwnsJ w y.q.sl y.q.x.args
section
variable {w w' : World} {p : Nat} {own : List UInt8} {K : List La} {qs : List Yq}
theorem ownsJ_type {v : Value} {l : List Int} (h : OwnsJ w v l) {g : Nat} (hg : v.ownBlock = some g) : ∃ cs, w.heap[g]? = some (.cells cs 2 (0, 0)) := by
  rcases h.2 with ⟨rfl, _⟩ | ⟨g1, cap, cur, rfl, _, hb, _⟩
  · simp [Value.ownBlock] at hg
  · simp [Value.ownBlock] at hg
    subst hg
    exact ⟨_, hb⟩
theorem ownsJ_ne {v : Value} {l : List Int} (h : OwnsJ w v l) {p : Nat} {cs : Array Value} {t : TypeId} {fz : Nat × Nat} (hp : w.heap[p]? = some (.cells cs t fz)) (ht : t ≠ 2) : v.ownBlock ≠ some p := fun hg => by
  obtain ⟨cs', h'⟩ := ownsJ_type h hg
  rw [h'] at hp
  injection hp with hp
  injection hp with _ hp _
  exact ht hp.symm
theorem IsO.lt (h : IsO w p own K qs) : p < w.heap.size := by obtain ⟨cs, hb, _⟩ := h.box; exact lt_of_block hb
theorem IsO.kept {S : List Nat} (h : IsO w p own K qs) (k : Kept S w w') (hp : p ∉ S) (hq : ∀ y ∈ qs, ∀ g, y.q.sl.ownBlock = some g → g ∉ S) : IsO w' p own K qs := by
  obtain ⟨cs, hb, hc⟩ := h.box
  exact ⟨⟨cs, k.keeps hb hp, hc⟩, h.kn, h.ln, fun y hm => (h.args y hm).kept k (hq y hm)⟩
theorem IsO.kept0 (h : IsO w p own K qs) (k : Kept [] w w') : IsO w' p own K qs := h.kept k (by simp) (by simp)
theorem IsO.cell {cs : List Value} {t : TypeId} (hb : w.heap[p]? = some (.cells cs.toArray t (0, 0))) {i : Nat} {v : Value} (hi : cs[i]? = some v) : w.cell? ⟨p, i, none⟩ = some v := by
  unfold World.cell?
  rw [hb]
  simpa using hi
theorem IsO.free (h : IsO w p own K qs) (i : Nat) : w.frozen? ⟨p, i, none⟩ = false := by
  obtain ⟨cs, hb, _⟩ := h.box
  simp [World.frozen?, hb]
theorem IsO.owner (h : IsO w p own K qs) : w.cell? ⟨p, 0, none⟩ = some (Sv own) := by
  obtain ⟨cs, hb, hc⟩ := h.box
  exact IsO.cell hb hc.own
theorem IsO.known (h : IsO w p own K qs) : w.cell? ⟨p, 129, none⟩ = some (.int .i64 (K.length : Int)) := by
  obtain ⟨cs, hb, hc⟩ := h.box
  exact IsO.cell hb hc.kn
theorem IsO.count (h : IsO w p own K qs) : w.cell? ⟨p, 290, none⟩ = some (.int .i64 (qs.length : Int)) := by
  obtain ⟨cs, hb, hc⟩ := h.box
  exact IsO.cell hb hc.yn
theorem IsO.key (h : IsO w p own K qs) {j : Nat} {y : La} (hj : K[j]? = some y) : w.cell? ⟨p, 1 + j * 2, none⟩ = some (Sv y.k) ∧ w.cell? ⟨p, 1 + j * 2 + 1, none⟩ = some (Uv y.s) := by
  obtain ⟨cs, hb, hc⟩ := h.box
  exact ⟨IsO.cell hb (hc.ks j y hj 0 _ rfl), IsO.cell hb (hc.ks j y hj 1 _ rfl)⟩
theorem IsO.at (h : IsO w p own K qs) {j : Nat} {y : Yq} (hj : qs[j]? = some y) : w.cell? ⟨p, 130 + j * 5, none⟩ = some (Sv y.to) ∧ w.cell? ⟨p, 130 + j * 5 + 1, none⟩ = some (Sv y.q.x.fr) ∧ w.cell? ⟨p, 130 + j * 5 + 2, none⟩ = some (.int .u64 (y.q.x.ser : Int)) ∧ w.cell? ⟨p, 130 + j * 5 + 3, none⟩ = some (.int .i64 y.q.x.kind) ∧ w.cell? ⟨p, 130 + j * 5 + 4, none⟩ = some y.q.sl := by
  obtain ⟨cs, hb, hc⟩ := h.box
  exact ⟨IsO.cell hb (hc.ys j y hj 0 _ rfl), IsO.cell hb (hc.ys j y hj 1 _ rfl), IsO.cell hb (hc.ys j y hj 2 _ rfl), IsO.cell hb (hc.ys j y hj 3 _ rfl), IsO.cell hb (hc.ys j y hj 4 _ rfl)⟩
theorem IsO.any (h : IsO w p own K qs) {i : Nat} (hi : i < 291) : ∃ v, w.cell? ⟨p, i, none⟩ = some v := by
  obtain ⟨cs, hb, hc⟩ := h.box
  exact ⟨_, IsO.cell hb (List.getElem?_eq_getElem (by rw [hc.len]; exact hi))⟩
/-- Its targets and its letters as rows. -/
theorem IsO.rowK (h : IsO w p own K qs) : ReadsR 2 w (.slice (some ⟨p, 1, none⟩) K.length 64) (CK K) := by
  obtain ⟨cs, hb, hc⟩ := h.box
  refine ⟨some ⟨p, 1, none⟩, 64, by rw [CK_length], by rw [CK_length]; exact h.kn, by unfold maxLen; omega, by simp, fun _ => ⟨p, 1, rfl, fun j r hr i x hx => ?_⟩⟩
  rw [CK, List.getElem?_map, Option.map_eq_some_iff] at hr
  obtain ⟨q, hq, rfl⟩ := hr
  exact IsO.cell hb (hc.ks j q hq i x hx)
theorem IsO.rowY (h : IsO w p own K qs) : ReadsR 5 w (.slice (some ⟨p, 130, none⟩) qs.length 32) (CY qs) := by
  obtain ⟨cs, hb, hc⟩ := h.box
  refine ⟨some ⟨p, 130, none⟩, 32, by rw [CY_length], by rw [CY_length]; exact h.ln, by unfold maxLen; omega, by simp, fun _ => ⟨p, 130, rfl, fun j r hr i x hx => ?_⟩⟩
  rw [CY, List.getElem?_map, Option.map_eq_some_iff] at hr
  obtain ⟨q, hq, rfl⟩ := hr
  exact IsO.cell hb (hc.ys j q hq i x hx)
end
/-- The cells of a new one. -/
def zeroO (own : List UInt8) : List Value := Sv own :: ((CK (List.replicate 64 ⟨[], 0⟩)).flatten ++ (.int .i64 0 :: ((CY (List.replicate 32 ⟨[], ⟨⟨[], 0, 0, []⟩, none, 0⟩⟩)).flatten ++ [.int .i64 0])))
theorem cellsO_new (own : List UInt8) : CellsO (zeroO own) own [] [] := by
  refine ⟨by simp [zeroO, CK, CY, cellsK, cellsY], rfl, by simp, ?_, by simp, ?_, fun v hv => ?_⟩
  · rfl
  · rfl
  · unfold zeroO at hv
    rcases List.mem_cons.1 hv with rfl | hv
    · rfl
    · rcases List.mem_append.1 hv with hv | hv
      · exact wide_one (CK_wide _) v hv
      · rcases List.mem_cons.1 hv with rfl | hv
        · rfl
        · rcases List.mem_append.1 hv with hv | hv
          · exact wide_one (CY_wide _) v hv
          · simp at hv; subst hv; rfl
/-- Cells that are stored elsewhere. -/
theorem CellsO.setK {cs : List Value} {own : List UInt8} {K : List La} {qs : List Yq} (h : CellsO cs own K qs) (hK : K.length ≤ 64) (hq : qs.length ≤ 32) {j : Nat} {y : La} (hj : K[j]? = some y) (s : Nat) : CellsO (cs.set (1 + j * 2 + 1) (Uv s)) own (K.set j ⟨y.k, s⟩) qs := by
  have hlt := get_lt hj
  refine ⟨by rw [List.length_set]; exact h.len, by rw [List.getElem?_set_ne (by omega)]; exact h.own, fun i z hz m v hv => ?_, by rw [List.getElem?_set_ne (by omega), List.length_set]; exact h.kn, fun i z hz m v hv => ?_, by rw [List.getElem?_set_ne (by omega)]; exact h.yn, set_one h.one rfl⟩
  · have hm := cellsK_lt hv
    by_cases hij : j = i
    · subst hij
      rw [List.getElem?_set_self hlt] at hz
      injection hz with hz
      subst hz
      match m, hm with
      | 0, _ =>
        rw [List.getElem?_set_ne (by omega)]
        exact h.ks j y hj 0 v hv
      | 1, _ =>
        rw [List.getElem?_set_self (by have := h.len; omega)]
        exact hv
    · rw [List.getElem?_set_ne hij] at hz
      rw [List.getElem?_set_ne (by omega)]
      exact h.ks i z hz m v hv
  · rw [List.getElem?_set_ne (by omega)]
    exact h.ys i z hz m v hv
end Go.Proofs.YtdadloaifebdiaaGreat
