import Derived.Lib.Bytealg
import Derived.Deep.QuietTactic
import Derived.BigQuiet
import Derived.Test.YtngnenbidpojeaaGreatDoorV05
import Derived.Test.YtngnenbidpojeaaGreatDoorV08
import Derived.Test.YtngnenbidpojeaaGreatDoorV09
/-
  An outbox in memory: a block of an owner, 64 targets, 32 letters on their way, and how many there are of each.
-/
namespace Go.Proofs.YtngnenbidpojeaaGreatDoor
set_option maxRecDepth 100000
open Go.RowKit
set_option linter.unusedVariables false
/-- A number as a cell. -/
abbrev Uv (n : Nat) : Value := .int .u64 (n : Int)
/-- A letter on its way, and where its Args lie. -/
structure Yq where
  to : List UInt8
  q : Lq
instance : Inhabited Yq := ⟨⟨[], default⟩⟩
def ot (y : Yq) : Ot := ⟨y.to, y.q.x⟩
/-- Its cells. -/
def cellsY (y : Yq) : List Value := [Sv y.to, Sv y.q.x.fr, .int .u64 (y.q.x.ser : Int), .int .i64 y.q.x.kind, y.q.sl]
/-- A letter on its way, as a value. -/
abbrev Yv (to : List UInt8) (x : Lt) (a : Option Addr) (c : Nat) : Value := .agg #[Sv to, Sv x.fr, .int .u64 (x.ser : Int), .int .i64 x.kind, .slice a x.args.length c]
def CY (l : List Yq) : List (List Value) := l.map cellsY
theorem CY_length (l : List Yq) : (CY l).length = l.length := by simp [CY]
theorem CY_append (a b : List Yq) : CY (a ++ b) = CY a ++ CY b := by simp [CY]
theorem CY_wide (l : List Yq) : Wide 5 (CY l) := fun r hr => by
  obtain ⟨x, _, rfl⟩ := List.mem_map.1 hr
  refine ⟨rfl, fun v hv => ?_⟩
  simp [cellsY] at hv
  rcases hv with rfl | rfl | rfl | rfl | rfl <;> rfl
/-- A target's cells. -/
def cellsK (y : La) : List Value := [Sv y.k, Uv y.s]
def CK (l : List La) : List (List Value) := l.map cellsK
theorem CK_length (l : List La) : (CK l).length = l.length := by simp [CK]
theorem CK_wide (l : List La) : Wide 2 (CK l) := fun r hr => by
  obtain ⟨x, _, rfl⟩ := List.mem_map.1 hr
  refine ⟨rfl, fun v hv => ?_⟩
  simp [cellsK] at hv
  rcases hv with rfl | rfl <;> rfl
/-- What the 291 cells say. -/
structure CellsO (cs : List Value) (own : List UInt8) (K : List La) (qs : List Yq) : Prop where
  len : cs.length = 291
  own : cs[0]? = some (Sv own)
  ks : ∀ (j : Nat) (y : La), K[j]? = some y → ∀ (i : Nat) (v : Value), (cellsK y)[i]? = some v → cs[1 + j * 2 + i]? = some v
  kn : cs[129]? = some (.int .i64 (K.length : Int))
  ys : ∀ (j : Nat) (y : Yq), qs[j]? = some y → ∀ (i : Nat) (v : Value), (cellsY y)[i]? = some v → cs[130 + j * 5 + i]? = some v
  yn : cs[290]? = some (.int .i64 (qs.length : Int))
  one : ∀ v ∈ cs, v.oneCell' = true
theorem set_one {cs : List Value} {i : Nat} {x : Value} (h : ∀ v ∈ cs, v.oneCell' = true) (hx : x.oneCell' = true) : ∀ v ∈ cs.set i x, v.oneCell' = true := fun v hv => by
  rcases List.mem_or_eq_of_mem_set hv with h1 | h1
  · exact h v h1
  · subst h1; exact hx
theorem wide_one {k : Nat} {rs : List (List Value)} (h : Wide k rs) : ∀ v ∈ rs.flatten, v.oneCell' = true := fun v hv => by
  obtain ⟨r, hr, hv⟩ := List.mem_flatten.1 hv
  exact (h r hr).2 v hv
theorem over_one {cs L : List Value} {m n : Nat} (h : ∀ v ∈ cs, v.oneCell' = true) (hL : ∀ v ∈ L, v.oneCell' = true) : ∀ v ∈ cs.take m ++ L ++ cs.drop n, v.oneCell' = true := fun v hv => by
  rcases List.mem_append.1 hv with hv | hv
  · rcases List.mem_append.1 hv with hv | hv
    · exact h v (List.mem_of_mem_take hv)
    · exact hL v hv
  · exact h v (List.mem_of_mem_drop hv)
theorem cellsK_lt {y : La} {i : Nat} {v : Value} (h : (cellsK y)[i]? = some v) : i < 2 := (List.getElem?_eq_some_iff.1 h).1
theorem cellsY_lt {y : Yq} {i : Nat} {v : Value} (h : (cellsY y)[i]? = some v) : i < 5 := (List.getElem?_eq_some_iff.1 h).1
theorem get_lt {α : Type} {l : List α} {j : Nat} {y : α} (h : l[j]? = some y) : j < l.length := (List.getElem?_eq_some_iff.1 h).1
/-- The outbox at block p: its owner, its targets, its letters. -/
structure IsO (w : World) (p : Nat) (own : List UInt8) (K : List La) (qs : List Yq) : Prop where
  box : ∃ cs, w.heap[p]? = some (.cells cs.toArray 168 (0, 0)) ∧ CellsO cs own K qs
  kn : K.length ≤ 64
  ln : qs.length ≤ 32
  args : ∀ y ∈ qs, OwnsJ w y.q.sl y.q.x.args
section
variable {w w' : World} {p : Nat} {own : List UInt8} {K : List La} {qs : List Yq}
theorem ownsJ_type {v : Value} {l : List Int} (h : OwnsJ w v l) {g : Nat} (hg : v.ownBlock = some g) : ∃ cs, w.heap[g]? = some (.cells cs 2 (0, 0)) := by
  rcases h.2 with ⟨rfl, _⟩ | ⟨g1, cap, cur, rfl, _, hb, _⟩
  · simp [Value.ownBlock] at hg
  · simp [Value.ownBlock] at hg
    subst hg
    exact ⟨_, hb⟩
theorem ownsJ_ne {v : Value} {l : List Int} (h : OwnsJ w v l) {p : Nat} {cs : Array Value} {t : TypeId} {fz : Nat × Nat} (hp : w.heap[p]? = some (.cells cs t fz)) (ht : t ≠ 2) : v.ownBlock ≠ some p := fun hg => by
  obtain ⟨cs', h'⟩ := ownsJ_type h hg
  rw [h'] at hp
  injection hp with hp
  injection hp with _ hp _
  exact ht hp.symm
theorem IsO.lt (h : IsO w p own K qs) : p < w.heap.size := by obtain ⟨cs, hb, _⟩ := h.box; exact lt_of_block hb
theorem IsO.kept {S : List Nat} (h : IsO w p own K qs) (k : Kept S w w') (hp : p ∉ S) (hq : ∀ y ∈ qs, ∀ g, y.q.sl.ownBlock = some g → g ∉ S) : IsO w' p own K qs := by
  obtain ⟨cs, hb, hc⟩ := h.box
  exact ⟨⟨cs, k.keeps hb hp, hc⟩, h.kn, h.ln, fun y hm => (h.args y hm).kept k (hq y hm)⟩
theorem IsO.kept0 (h : IsO w p own K qs) (k : Kept [] w w') : IsO w' p own K qs := h.kept k (by simp) (by simp)
theorem IsO.cell {cs : List Value} {t : TypeId} (hb : w.heap[p]? = some (.cells cs.toArray t (0, 0))) {i : Nat} {v : Value} (hi : cs[i]? = some v) : w.cell? ⟨p, i, none⟩ = some v := by
  unfold World.cell?
  rw [hb]
  simpa using hi
theorem IsO.free (h : IsO w p own K qs) (i : Nat) : w.frozen? ⟨p, i, none⟩ = false := by
  obtain ⟨cs, hb, _⟩ := h.box
  simp [World.frozen?, hb]
theorem IsO.owner (h : IsO w p own K qs) : w.cell? ⟨p, 0, none⟩ = some (Sv own) := by
  obtain ⟨cs, hb, hc⟩ := h.box
  exact IsO.cell hb hc.own
theorem IsO.known (h : IsO w p own K qs) : w.cell? ⟨p, 129, none⟩ = some (.int .i64 (K.length : Int)) := by
  obtain ⟨cs, hb, hc⟩ := h.box
  exact IsO.cell hb hc.kn
theorem IsO.count (h : IsO w p own K qs) : w.cell? ⟨p, 290, none⟩ = some (.int .i64 (qs.length : Int)) := by
  obtain ⟨cs, hb, hc⟩ := h.box
  exact IsO.cell hb hc.yn
theorem IsO.key (h : IsO w p own K qs) {j : Nat} {y : La} (hj : K[j]? = some y) : w.cell? ⟨p, 1 + j * 2, none⟩ = some (Sv y.k) ∧ w.cell? ⟨p, 1 + j * 2 + 1, none⟩ = some (Uv y.s) := by
  obtain ⟨cs, hb, hc⟩ := h.box
  exact ⟨IsO.cell hb (hc.ks j y hj 0 _ rfl), IsO.cell hb (hc.ks j y hj 1 _ rfl)⟩
theorem IsO.at (h : IsO w p own K qs) {j : Nat} {y : Yq} (hj : qs[j]? = some y) : w.cell? ⟨p, 130 + j * 5, none⟩ = some (Sv y.to) ∧ w.cell? ⟨p, 130 + j * 5 + 1, none⟩ = some (Sv y.q.x.fr) ∧ w.cell? ⟨p, 130 + j * 5 + 2, none⟩ = some (.int .u64 (y.q.x.ser : Int)) ∧ w.cell? ⟨p, 130 + j * 5 + 3, none⟩ = some (.int .i64 y.q.x.kind) ∧ w.cell? ⟨p, 130 + j * 5 + 4, none⟩ = some y.q.sl := by
  obtain ⟨cs, hb, hc⟩ := h.box
  exact ⟨IsO.cell hb (hc.ys j y hj 0 _ rfl), IsO.cell hb (hc.ys j y hj 1 _ rfl), IsO.cell hb (hc.ys j y hj 2 _ rfl), IsO.cell hb (hc.ys j y hj 3 _ rfl), IsO.cell hb (hc.ys j y hj 4 _ rfl)⟩
theorem IsO.any (h : IsO w p own K qs) {i : Nat} (hi : i < 291) : ∃ v, w.cell? ⟨p, i, none⟩ = some v := by
  obtain ⟨cs, hb, hc⟩ := h.box
  exact ⟨_, IsO.cell hb (List.getElem?_eq_getElem (by rw [hc.len]; exact hi))⟩
theorem IsO.rowY (h : IsO w p own K qs) : ReadsR 5 w (.slice (some ⟨p, 130, none⟩) qs.length 32) (CY qs) := by
  obtain ⟨cs, hb, hc⟩ := h.box
  refine ⟨some ⟨p, 130, none⟩, 32, by rw [CY_length], by rw [CY_length]; exact h.ln, by unfold maxLen; omega, by simp, fun _ => ⟨p, 130, rfl, fun j r hr i x hx => ?_⟩⟩
  rw [CY, List.getElem?_map, Option.map_eq_some_iff] at hr
  obtain ⟨q, hq, rfl⟩ := hr
  exact IsO.cell hb (hc.ys j q hq i x hx)
end
/-- The cells of a new one. -/
def zeroO (own : List UInt8) : List Value := Sv own :: ((CK (List.replicate 64 ⟨[], 0⟩)).flatten ++ (.int .i64 0 :: ((CY (List.replicate 32 ⟨[], ⟨⟨[], 0, 0, []⟩, none, 0⟩⟩)).flatten ++ [.int .i64 0])))
theorem cellsO_new (own : List UInt8) : CellsO (zeroO own) own [] [] := by
  refine ⟨by simp [zeroO, CK, CY, cellsK, cellsY], rfl, by simp, ?_, by simp, ?_, fun v hv => ?_⟩
  · rfl
  · rfl
  · unfold zeroO at hv
    rcases List.mem_cons.1 hv with rfl | hv
    · rfl
    · rcases List.mem_append.1 hv with hv | hv
      · exact wide_one (CK_wide _) v hv
      · rcases List.mem_cons.1 hv with rfl | hv
        · rfl
        · rcases List.mem_append.1 hv with hv | hv
          · exact wide_one (CY_wide _) v hv
          · simp at hv; subst hv; rfl
/-- Cells that are stored elsewhere. -/
theorem CellsO.setK {cs : List Value} {own : List UInt8} {K : List La} {qs : List Yq} (h : CellsO cs own K qs) (hK : K.length ≤ 64) (hq : qs.length ≤ 32) {j : Nat} {y : La} (hj : K[j]? = some y) (s : Nat) : CellsO (cs.set (1 + j * 2 + 1) (Uv s)) own (K.set j ⟨y.k, s⟩) qs := by
  have hlt := get_lt hj
  refine ⟨by rw [List.length_set]; exact h.len, by rw [List.getElem?_set_ne (by omega)]; exact h.own, fun i z hz m v hv => ?_, by rw [List.getElem?_set_ne (by omega), List.length_set]; exact h.kn, fun i z hz m v hv => ?_, by rw [List.getElem?_set_ne (by omega)]; exact h.yn, set_one h.one rfl⟩
  · have hm := cellsK_lt hv
    by_cases hij : j = i
    · subst hij
      rw [List.getElem?_set_self hlt] at hz
      injection hz with hz
      subst hz
      match m, hm with
      | 0, _ =>
        rw [List.getElem?_set_ne (by omega)]
        exact h.ks j y hj 0 v hv
      | 1, _ =>
        rw [List.getElem?_set_self (by have := h.len; omega)]
        exact hv
    · rw [List.getElem?_set_ne hij] at hz
      rw [List.getElem?_set_ne (by omega)]
      exact h.ks i z hz m v hv
  · rw [List.getElem?_set_ne (by omega)]
    exact h.ys i z hz m v hv
end Go.Proofs.YtngnenbidpojeaaGreatDoor
/-
  The calls of an outbox that only look: isKey, owned, Owner, find, Serial, hasNext.
-/
namespace Go.Proofs.YtngnenbidpojeaaGreatDoor
set_option maxRecDepth 100000
open Go.RowKit
set_option linter.unusedVariables false
theorem cmp_lt : ∀ (a b : List UInt8), Lib.compareBytes a b < 0 ↔ a < b
  | [], [] => by simp [Lib.compareBytes]
  | [], _ :: _ => by simp [Lib.compareBytes]
  | _ :: _, [] => by simp [Lib.compareBytes]
  | x :: a, y :: b => by
    rw [List.cons_lt_cons_iff, Lib.compareBytes]
    by_cases h1 : x < y
    · simp [h1]
    · by_cases h2 : y < x
      · have : ¬ x = y := by rintro rfl; exact h1 h2
        simp [h1, h2, this]
      · have e : x = y := UInt8.toNat_inj.1 (by rw [UInt8.lt_iff_toNat_lt] at h1 h2; omega)
        subst e
        simp [h1, cmp_lt a b]
theorem cmp_eq : ∀ (a b : List UInt8), Lib.compareBytes a b = 0 ↔ a = b
  | [], [] => by simp [Lib.compareBytes]
  | [], _ :: _ => by simp [Lib.compareBytes]
  | _ :: _, [] => by simp [Lib.compareBytes]
  | x :: a, y :: b => by
    rw [Lib.compareBytes]
    by_cases h1 : x < y
    · have : ¬ x = y := by rintro rfl; rw [UInt8.lt_iff_toNat_lt] at h1; omega
      simp [h1, this]
    · by_cases h2 : y < x
      · have : ¬ x = y := by rintro rfl; exact h1 h2
        simp [h1, h2, this]
      · have e : x = y := UInt8.toNat_inj.1 (by rw [UInt8.lt_iff_toNat_lt] at h1 h2; omega)
        subst e
        simp [h1, cmp_eq a b]
theorem half_range (i j : Nat) (h : i < j) : (i + j) / 2 < j ∧ i ≤ (i + j) / 2 := by omega
/-- The place that a search finds. -/
theorem pla_is {K : List La} {to : List UInt8} {j : Nat} (h1 : j ≤ K.length) (h2 : ∀ p y, K[p]? = some y → p < j → y.k < to) (h3 : ∀ p y, K[p]? = some y → j ≤ p → ¬ y.k < to) : pla K to = j := by
  have hle := pla_le K to
  rcases Nat.lt_trichotomy (pla K to) j with h | h | h
  · obtain ⟨y, hy⟩ : ∃ y, K[pla K to]? = some y := ⟨_, List.getElem?_eq_getElem (by omega)⟩
    exact absurd (h2 _ y hy h) (pla_at hy)
  · exact h
  · obtain ⟨y, hy⟩ : ∃ y, K[j]? = some y := ⟨_, List.getElem?_eq_getElem (by omega)⟩
    exact absurd (pla_lt hy h) (h3 _ y hy (Nat.le_refl _))
theorem has_is {K : List La} {to : List UInt8} {y : La} (hy : K[pla K to]? = some y) : hasK K to = decide (y.k = to) := by
  cases hh : hasK K to with
  | true =>
    obtain ⟨s, h1, -⟩ := has_at hh
    rw [h1] at hy
    injection hy with hy
    subst hy
    simp
  | false =>
    have := (has_not hh).2 y hy
    simp [this]
theorem has_none {K : List La} {to : List UInt8} (hy : K[pla K to]? = none) : hasK K to = false := by
  cases hh : hasK K to with
  | true =>
    obtain ⟨s, h1, -⟩ := has_at hh
    rw [h1] at hy
    cases hy
  | false => rfl
section
variable {w : World} {p : Nat} {own : List UInt8} {K : List La} {qs : List Yq}
theorem isKey26 (s : List UInt8) (hs : s.length ≤ 281474976710656) : Calls Tryz.prog 81 #[Sv s] w fun e w' => e = .returned (.bool (isKey s)) ∧ w = w' := by
  have e : isKey s = (decide ((1 : Int) ≤ (s.length : Int)) && decide ((s.length : Int) ≤ 40)) := by
    unfold isKey
    rw [Bool.eq_iff_iff]
    simp
    omega
  rw [e]
  by_cases h1 : (1 : Int) ≤ (s.length : Int)
  · rw [decide_eq_true h1, Bool.true_and]
    go_enter Tryz.func81, Tryz.ntmps81
    go_wp2_with fail
    all_goals go_ret
    all_goals exact ⟨rfl, rfl⟩
  · rw [decide_eq_false h1, Bool.false_and]
    go_enter Tryz.func81, Tryz.ntmps81
    go_wp2_with fail
    go_ret
    exact ⟨rfl, rfl⟩
theorem key28 (s : List UInt8) (hs : s.length ≤ 281474976710656) : Calls Tryz.prog 59 #[Sv s] w fun e w' => e = .returned (.bool (isKey s)) ∧ w = w' := by
  have e : isKey s = (decide ((1 : Int) ≤ (s.length : Int)) && decide ((s.length : Int) ≤ 40)) := by
    unfold isKey
    rw [Bool.eq_iff_iff]
    simp
    omega
  rw [e]
  by_cases h1 : (1 : Int) ≤ (s.length : Int)
  · rw [decide_eq_true h1, Bool.true_and]
    go_enter Tryz.func59, Tryz.ntmps59
    go_wp2_with fail
    all_goals go_ret
    all_goals exact ⟨rfl, rfl⟩
  · rw [decide_eq_false h1, Bool.false_and]
    go_enter Tryz.func59, Tryz.ntmps59
    go_wp2_with fail
    go_ret
    exact ⟨rfl, rfl⟩
theorem cmp81 (a b : List UInt8) (w : World) : Calls Tryz.prog 137 #[Sv a, Sv b] w fun e w' => e = .returned (.int .i64 (Lib.compareBytes a b)) ∧ w = w' := by
  have h88 : Calls Tryz.prog 153 #[Sv a, Sv b] w fun e w' => e = .returned (.int .i64 (Lib.compareBytes a b)) ∧ w = w' := by
    go_enter Tryz.func153, Tryz.ntmps153
    go_wp2
    rw [run_callFunc_extern Tryz.func158 (by kernel_rfl) (by kernel_rfl) (by kernel_rfl) (e := Extern.BytealgCompare.compare) (by kernel_rfl), Lib.run_compareString]
    simp only [Result.andThen]
    rw [Oper.upon_value]
    go_wp2
    go_ret
    exact ⟨rfl, rfl⟩
  generalize Lib.compareBytes a b = r at h88 ⊢
  go_enter Tryz.func137, Tryz.ntmps137
  go_wp2_with fail
  refine h88.mono ?_
  rintro e w' ⟨rfl, rfl⟩
  go_wp2
  go_ret
  exact ⟨rfl, rfl⟩
theorem cmp80 (y : La) (to : List UInt8) (w : World) : Calls Tryz.prog 136 #[.agg #[Sv y.k, Uv y.s], Sv to] w fun e w' => e = .returned (.int .i64 (Lib.compareBytes y.k to)) ∧ Kept [] w w' := by
  have h := fun W => cmp81 y.k to W
  generalize Lib.compareBytes y.k to = r at h ⊢
  go_enter Tryz.func136, Tryz.ntmps136
  go_wp2_with fail
  refine (h _).mono ?_
  rintro e w' ⟨rfl, rfl⟩
  go_wp2
  go_ret
  exact ⟨rfl, (Kept.refl [] w).alloc _⟩
/-- Keys rise. -/
theorem rise_lt (h : Rise K) {i j : Nat} {x y : La} (hi : K[i]? = some x) (hj : K[j]? = some y) (hij : i < j) : x.k < y.k := by
  obtain ⟨h1, e1⟩ := List.getElem?_eq_some_iff.1 hi
  obtain ⟨h2, e2⟩ := List.getElem?_eq_some_iff.1 hj
  rw [← e1, ← e2]
  exact List.pairwise_iff_getElem.1 h i j h1 h2 hij
set_option maxHeartbeats 1000000 in
theorem search79 (hB : IsO w p own K qs) (hup : Rise K) (to : List UInt8) : Calls Tryz.prog 135 #[.slice (some ⟨p, 1, none⟩) K.length 64, Sv to, .func (.func 136) #[] #[]] w fun e w' => e = .returned (.tuple #[.int .i64 (pla K to : Int), .bool (hasK K to)]) ∧ Kept [] w w' := by
  have eg : ∀ args w, (callFunc 136 args).run Tryz.prog w = .ok (.enter 136 args) w := enters_of Tryz.func136 (by kernel_rfl) rfl
  have HU := Hid.mk hup
  have HB := Hid.mk hB
  have hn64 := hB.kn
  clear hup hB
  generalize hnn : K.length = n at *
  have HN := Hid.mk hnn
  clear hnn
  obtain ⟨P, hP⟩ : ∃ P, Hid (pla K to = P) := ⟨_, rfl⟩
  obtain ⟨A, hA⟩ : ∃ A, Hid (hasK K to = A) := ⟨_, rfl⟩
  rw [hP.out, hA.out]
  go_enter Tryz.func135, Tryz.ntmps135
  go_wp2_with fail
  go_loopw [9, 10] (fun vi vj wr => ∃ i j : Nat, Hid (Kept [] w wr) ∧ vi = .int .i64 (i : Int) ∧ vj = .int .i64 (j : Int) ∧ i ≤ j ∧ j ≤ n ∧ Hid ((∀ (p : Nat) (x : La), K[p]? = some x → p < i → x.k < to) ∧ ∀ (p : Nat) (x : La), K[p]? = some x → j ≤ p → ¬ x.k < to)) (fun vi vj _ => (intOf vj - intOf vi).toNat)
  case atStart => exact ⟨0, n, Hid.mk (Kept.refl [] w), rfl, rfl, by omega, by omega, Hid.mk ⟨by intros; omega, fun p x hp hj => by have := get_lt hp; have := HN.out; omega⟩⟩
  case round =>
    obtain ⟨i, j, kk, rfl, rfl, hij, hjn, H1⟩ := hrel
    by_cases hlt : i < j
    · have hh := half_range i j hlt
      obtain ⟨x, hx⟩ : ∃ x, K[(i + j) / 2]? = some x := ⟨_, List.getElem?_eq_getElem (by have := HN.out; omega)⟩
      obtain ⟨c0, c1⟩ := (HB.out.kept0 kk.out).key hx
      have hcc := cmp80 x to wr
      have hcl := cmp_lt x.k to
      generalize Lib.compareBytes x.k to = cv at hcc hcl
      have Hx := Hid.mk hx
      clear hx
      by_cases hneg : cv < 0
      · have hk : x.k < to := hcl.1 hneg
        clear hcl
        go_wp2_with (go_at_fn 136; refine hcc.mono ?_; rintro e w' ⟨rfl, k1⟩; have HK := Hid.mk (kk.out.trans k1 (by simp)); clear k1)
        go_roundw
        case rel =>
          exact ⟨(i + j) / 2 + 1, j, HK, by rw [show ((i : Int) + (j : Int)) / 2 + 1 = (((i + j) / 2 + 1 : Nat) : Int) by omega], rfl, by omega, hjn, Hid.mk ⟨fun p y hp hlt => by
            rcases Nat.lt_or_ge p ((i + j) / 2) with h | h
            · exact klt_trans (rise_lt HU.out hp Hx.out h) hk
            · have : p = (i + j) / 2 := by omega
              subst this
              rw [Hx.out] at hp
              injection hp with hp
              rw [← hp]
              exact hk, H1.out.2⟩⟩
        case measure => simp [intOf]; omega
      · have hk : ¬ x.k < to := fun h => hneg (hcl.2 h)
        clear hcl
        go_wp2_with (go_at_fn 136; refine hcc.mono ?_; rintro e w' ⟨rfl, k1⟩; have HK := Hid.mk (kk.out.trans k1 (by simp)); clear k1)
        go_roundw
        case rel =>
          exact ⟨i, (i + j) / 2, HK, rfl, by rw [show ((i : Int) + (j : Int)) / 2 = (((i + j) / 2 : Nat) : Int) by omega], by omega, by omega, Hid.mk ⟨H1.out.1, fun p y hp hle => by
            rcases Nat.lt_or_ge ((i + j) / 2) p with h | h
            · exact fun hy => hk (klt_trans (rise_lt HU.out Hx.out hp h) hy)
            · have : p = (i + j) / 2 := by omega
              subst this
              rw [Hx.out] at hp
              injection hp with hp
              rw [← hp]
              exact hk⟩⟩
        case measure => simp [intOf]; omega
    · obtain rfl : j = i := by omega
      have HP : Hid (P = j) := Hid.mk (by rw [← hP.out]; exact pla_is (by have := HN.out; omega) H1.out.1 H1.out.2)
      by_cases hjn2 : j < n
      · obtain ⟨x, hx⟩ : ∃ x, K[j]? = some x := ⟨_, List.getElem?_eq_getElem (by have := HN.out; omega)⟩
        obtain ⟨c0, c1⟩ := (HB.out.kept0 kk.out).key hx
        have hcc := cmp80 x to wr
        have hce := cmp_eq x.k to
        have hd : Hid (A = decide (x.k = to)) := Hid.mk (by rw [← hA.out]; exact has_is (by rw [hP.out, HP.out]; exact hx))
        generalize Lib.compareBytes x.k to = cv at hcc hce
        clear hx
        by_cases h0 : cv = 0
        · have h1 : A = true := by rw [hd.out]; simpa using hce.1 h0
          have h2 := HP.out
          subst h0 h1 h2
          clear hce
          go_wp2_with (go_at_fn 136; refine hcc.mono ?_; rintro e w' ⟨rfl, k1⟩)
          go_ret2
          exact ⟨rfl, kk.out.trans k1 (by simp)⟩
        · have hb : (cv == 0) = false := by simpa using h0
          have h1 : A = false := by rw [hd.out]; simpa using fun h => h0 (hce.2 h)
          have h2 := HP.out
          subst h1 h2
          clear hce
          go_wp2_with (go_at_fn 136; refine hcc.mono ?_; rintro e w' ⟨rfl, k1⟩)
          go_ret2
          exact ⟨rfl, kk.out.trans k1 (by simp)⟩
      · have h1 : A = false := by rw [← hA.out]; exact has_none (by rw [hP.out, HP.out]; exact List.getElem?_eq_none (by have := HN.out; omega))
        have h2 := HP.out
        subst h1 h2
        go_wp2
        go_ret2
        exact ⟨rfl, kk.out⟩
end
end Go.Proofs.YtngnenbidpojeaaGreatDoor
/-
  find, Serial, hasNext, owned, Owner of an outbox.
-/
namespace Go.Proofs.YtngnenbidpojeaaGreatDoor
set_option maxRecDepth 100000
open Go.RowKit
set_option linter.unusedVariables false
section
variable {w : World} {p : Nat} {own : List UInt8} {K : List La} {qs : List Yq}
set_option maxHeartbeats 1000000 in
theorem find63 (hB : IsO w p own K qs) (hup : Rise K) (to : List UInt8) : Calls Tryz.prog 105 #[.pointer (some ⟨p, 0, none⟩), Sv to] w fun e w' => e = .returned (.tuple #[.int .i64 (pla K to : Int), .bool (hasK K to)]) ∧ Kept [] w w' := by
  have HB := Hid.mk hB
  have hn64 := hB.kn
  have hBd := hB.kept0 (Kept.refl [] w).drew
  have HC := Hid.mk (search79 hBd hup to)
  have S0 := hBd.known
  clear hB hBd
  have HS : Hid (∀ W, Kept [] w.drew W → W.cell? ⟨p, 129, none⟩ = some (.int .i64 (K.length : Int))) := fun W k => k.cell_eq S0
  have g0 : (0 : Int) ≤ (K.length : Int) := by omega
  have g1 : (K.length : Int) ≤ 64 := by omega
  generalize pla K to = P at HC ⊢
  generalize hasK K to = A at HC ⊢
  generalize K.length = n at *
  go_enter Tryz.func105, Tryz.ntmps105
  go_wp2_with fail
  go_region_held3 (fun W => W.cell? ⟨p, 129, none⟩ = some (.int .i64 (n : Int))) (first | exact S0 | exact S1) (first | (go_at_call 135; refine HC.out.mono ?_; rintro e w1 ⟨rfl, k1⟩; have S1 := HS.out _ k1))
  go_wp2_with fail
  go_ret2
  exact ⟨rfl, (Kept.refl [] w).drew.trans k1 (by simp)⟩
set_option maxHeartbeats 1000000 in
theorem hasNext58 (hB : IsO w p own K qs) (hup : Rise K) (to : List UInt8) : Calls Tryz.prog 82 #[.pointer (some ⟨p, 0, none⟩), Sv to] w fun e w' => e = .returned (.bool (if hasK K to = true then decide (ser K to < 18446744073709551615) else decide (K.length < 64))) ∧ Kept [] w w' := by
  have HF := Hid.mk (find63 hB hup to)
  cases hh : hasK K to with
  | false =>
    rw [hh] at HF
    have hKn : Hid (∀ W, Kept [] w W → W.cell? ⟨p, 129, none⟩ = some (.int .i64 (K.length : Int))) := fun W k => (hB.kept0 k).known
    have hn64 := hB.kn
    clear hB hh
    have e : (if (false : Bool) = true then decide (ser K to < 18446744073709551615) else decide (K.length < 64)) = decide ((K.length : Int) < 64) := by
      rw [if_neg (by simp)]
      rw [Bool.eq_iff_iff]; simp; omega
    rw [e]
    clear e
    generalize K.length = n at *
    generalize pla K to = P at HF
    go_enter Tryz.func82, Tryz.ntmps82
    go_wp2_with fail
    refine HF.out.mono ?_
    rintro e w1 ⟨rfl, k1⟩
    have c1 := hKn.out _ k1
    go_wp2_with fail
    go_ret
    exact ⟨rfl, k1⟩
  | true =>
    obtain ⟨s, h1, h2⟩ := has_at hh
    have e : (if (true : Bool) = true then decide (ser K to < 18446744073709551615) else decide (K.length < 64)) = decide ((s : Int) < 18446744073709551615) := by
      rw [if_pos rfl, h2]
      rw [Bool.eq_iff_iff]; simp; omega
    rw [e]
    clear e
    rw [hh] at HF
    have hlt := get_lt h1
    have hn64 := hB.kn
    have HKY : Hid (∀ W, Kept [] w W → W.cell? ⟨p, 1 + pla K to * 2 + 1, none⟩ = some (Uv s)) := fun W k => ((hB.kept0 k).key h1).2
    clear hB hh h1 h2
    generalize pla K to = P at *
    have g0 : (0 : Int) ≤ (P : Int) := by omega
    have g1 : (P : Int) < 64 := by omega
    go_enter Tryz.func82, Tryz.ntmps82
    go_wp2_with fail
    refine HF.out.mono ?_
    rintro e w1 ⟨rfl, k1⟩
    have c1 := HKY.out _ k1
    go_wp2_with fail
    go_ret
    exact ⟨rfl, k1⟩
theorem owned34 (hB : IsO w p own K qs) : Calls Tryz.prog 80 #[.pointer (some ⟨p, 0, none⟩)] w fun e w' => e = .returned (.bool (!own.isEmpty)) ∧ w = w' := by
  have c0 := hB.owner
  clear hB
  cases own with
  | nil =>
    go_enter Tryz.func80, Tryz.ntmps80
    go_wp2_with fail
    go_ret
    exact ⟨rfl, rfl⟩
  | cons u t =>
    go_enter Tryz.func80, Tryz.ntmps80
    go_wp2_with fail
    go_ret
    exact ⟨rfl, rfl⟩
theorem owner24 (hB : IsO w p own K qs) (hl : own.length ≤ 281474976710656) : Calls Tryz.prog 102 #[.pointer (some ⟨p, 0, none⟩)] w fun e w' => e = .returned (Sv own) ∧ Kept [] w w' := by
  have c0 := hB.owner
  clear hB
  go_enter Tryz.func102, Tryz.ntmps102
  go_wp2_with fail
  refine (clone32 own hl).mono ?_
  rintro e w1 ⟨rfl, k1⟩
  go_wp2_with fail
  go_ret
  exact ⟨rfl, k1⟩
end
end Go.Proofs.YtngnenbidpojeaaGreatDoor
