import Derived.Deep.Slices
import Derived.ChangeArms
import Derived.OpenShut
import Derived.SizedLaws
import Derived.Deep.DeepCutAuto
import Derived.ChangeKeysEq
import Derived.Test.YtngnenbidpojeaaGreatDoorQ17
import Derived.Test.YtngnenbidpojeaaGreatDoorQ23
import Derived.Test.YtngnenbidpojeaaGreatDoorQ24
import Derived.Test.YtngnenbidpojeaaGreatDoorQ33
import Derived.Test.YtngnenbidpojeaaGreatDoorQ35
import Derived.Test.YtngnenbidpojeaaGreatDoorQ36
import Derived.Test.YtngnenbidpojeaaGreatDoorQ37
import Derived.Test.YtngnenbidpojeaaGreatDoorQ38
/-
  Programs that came in.
-/
namespace Go.Proofs.YtngnenbidpojeaaGreatDoor
set_option maxRecDepth 100000
open Go.RowKit Go.Deep Go.ChangeShapes
set_option linter.unusedVariables false
theorem open_instr {H : Type} {enc : TypeId × Value → H} {W : World} {fuel : Nat} {cs : List Value} {x : DataW H × List MemPlace} (h : DataW.trod enc Tryz.prog W 0 (fun _ => true) true fuel 108 cs = some x) (hl : cs.length = 2) :
    ∃ e : In, cs = [.int .i64 e.op, .int .i64 e.arg] ∧ I64 e.op ∧ I64 e.arg := by
  obtain ⟨xs, k, hk, hxy, _, hxl, hf⟩ := DataW.trod_struct Tryz.underlying108 h
  match xs, hxl, cs, hl with
  | [y0, y1], _, [v0, v1], _ =>
    have g0 := hf 0 _ rfl
    have g1 := hf 1 _ rfl
    simp [show Tryz.prog.cellsOf 3 = 1 by kernel_rfl, show Tryz.prog.cellsOf 2 = 1 by kernel_rfl] at g0 g1
    obtain ⟨a, e0, f0, w0⟩ := DataW.trod_int Tryz.underlying3 g0
    obtain ⟨b, e1, f1, w1⟩ := DataW.trod_int Tryz.underlying2 g1
    simp at e0 e1
    subst e0 e1
    exact ⟨⟨a, b⟩, rfl, bounds_i64 w0, bounds_i64 w1⟩
/-- A row of k cells an element that came in. -/
theorem open_row {α : Type} [Inhabited α] {H : Type} {enc : TypeId × Value → H} {W : World} {fuel : Nat} {cs : List Value} {x : DataW H × List MemPlace} {T e : TypeId} {k : Nat} (hT : Tryz.prog.underlying T = some (.slice e)) (hk : Tryz.prog.cellsOf e = k) (hk0 : 0 < k) (cellsA : α → List Value) (ok : α → Prop)
    (hlen : ∀ a, (cellsA a).length = k)
    (each1 : ∀ (n : Nat) (cs : List Value) (y : DataW H × List MemPlace), DataW.trod enc Tryz.prog W 0 (fun _ => true) true n e cs = some y → cs.length = k → ∃ a, cs = cellsA a ∧ ok a)
    (h : DataW.trod enc Tryz.prog W 0 (fun _ => true) true fuel T cs = some x) :
    ∃ (v : Value) (l : List α), cs = [v] ∧ ReadsR k W v (l.map cellsA) ∧ ∀ a ∈ l, ok a := by
  rcases open_slice hT h with ⟨h0, hx⟩ | ⟨a, len, cap, m, n, D, Pl, hcs, hb, hl, hm, hmm, hx, hel⟩
  · exact ⟨_, [], h0, ReadsR.nil k W, by simp⟩
  · have hm' : m = cap := by simpa using hmm
    subst hm'
    have each : ∀ i, i < len → ∃ q : α, (∀ j y, (cellsA q)[j]? = some y → W.cell? (a.add (i * k + j)) = some y) ∧ ok q := by
      intro i hi
      obtain ⟨cs', h1, h2⟩ := hel i (by omega)
      rw [hk] at h1
      obtain ⟨_, hlen', hcell⟩ := World.cells?_some h1
      obtain ⟨q, rfl, hok⟩ := each1 _ _ _ h2 (by simpa using hlen')
      refine ⟨q, fun j y hy => ?_, hok⟩
      have hj := (List.getElem?_eq_some_iff.1 hy).1
      have := hcell j (by rw [hlen] at hj; exact hj)
      rw [addr_add_add] at this
      rw [this]
      simp [hy]
    obtain ⟨f, hfp⟩ := choose_lt each
    have hll : ((List.range len).map f).length = len := by simp
    refine ⟨_, (List.range len).map f, hcs, ⟨some a, m, by rw [List.length_map, hll], by rw [List.length_map, hll]; omega, hm, by simp, fun hne => ?_⟩, ?_⟩
    · have hpos : 0 < len := by
        rcases Nat.eq_zero_or_pos len with h | h
        · subst h; simp at hne
        · exact h
      obtain ⟨b, o, spot⟩ := a
      have hq0 : ∃ y, (cellsA (f 0))[0]? = some y := ⟨(cellsA (f 0))[0]'(by rw [hlen]; exact hk0), by simp⟩
      obtain ⟨y, hy⟩ := hq0
      have hc := (hfp 0 (by omega)).1 0 y hy
      have hspot : spot = none := by simpa [Addr.add] using World.cell?_spot hc
      subst hspot
      refine ⟨b, o, rfl, fun j r hr i y hy => ?_⟩
      rw [List.getElem?_map, Option.map_eq_some_iff] at hr
      obtain ⟨p, hp, rfl⟩ := hr
      have hj : j < len := by
        have := (List.getElem?_eq_some_iff.1 hp).1
        simpa using this
      have hpf : p = f j := by
        rw [List.getElem?_map] at hp
        simp [hj] at hp
        exact hp.symm
      subst hpf
      have := (hfp j hj).1 i y hy
      rw [add_at] at this
      rw [Nat.add_assoc]
      exact this
    · intro q hq
      obtain ⟨i, hi, rfl⟩ := List.mem_map.1 hq
      exact (hfp i (by simpa using hi)).2
theorem size_list (s : ByteArray) : s.size = s.data.toList.length := by
  rw [Array.length_toList]
  rfl
/-- A program that came in. -/
structure PgIn (W : World) (v : Value) (p : Pg) : Prop where
  form : ∃ a b, v = .agg #[a, b] ∧ IsP_N W a b p
  names : ∀ s ∈ p.names, s.length ≤ 9223372036854775807
  code : ∀ x ∈ p.code, I64 x.op ∧ I64 x.arg
theorem open_prog {H : Type} {enc : TypeId × Value → H} {W : World} {fuel : Nat} {cs : List Value} {x : DataW H × List MemPlace} (h : DataW.trod enc Tryz.prog W 0 (fun _ => true) true fuel 25 cs = some x) :
    ∃ a b p, cs = [a, b] ∧ PgIn W (.agg #[a, b]) p := by
  obtain ⟨xs, k, hk, hxy, hcl, hxl, hf⟩ := DataW.trod_struct Tryz.underlying25 h
  have hc2 : cs.length = 2 := hcl.trans (show Tryz.prog.cellsOf 25 = 2 by kernel_rfl)
  match xs, hxl, cs, hc2 with
  | [y0, y1], _, [v0, v1], _ =>
    have g0 := hf 0 _ rfl
    have g1 := hf 1 _ rfl
    simp [show Tryz.prog.cellsOf 22 = 1 by kernel_rfl, show Tryz.prog.cellsOf 23 = 1 by kernel_rfl] at g0 g1
    obtain ⟨v, l, e0, r0, o0⟩ := open_row (α := List UInt8) Tryz.underlying22 (show Tryz.prog.cellsOf 9 = 1 by kernel_rfl) (by omega) (fun s => [.string ⟨s.toArray⟩]) (fun s => s.length ≤ 9223372036854775807) (fun _ => rfl) (fun n cs y hy hl => by
      obtain ⟨s, e, -, hs⟩ := DataW.trod_string Tryz.underlying9 hy
      refine ⟨s.data.toList, by rw [e], ?_⟩
      have : s.size = s.data.toList.length := size_list s
      rw [← this]
      exact Nat.le_trans hs (by decide)) g0
    obtain ⟨u, m, e1, r1, o1⟩ := open_row (α := In) Tryz.underlying23 (show Tryz.prog.cellsOf 108 = 2 by kernel_rfl) (by omega) (fun x => [.int .i64 x.op, .int .i64 x.arg]) (fun x => I64 x.op ∧ I64 x.arg) (fun _ => rfl) (fun n cs y hy hl => open_instr hy hl) g1
    simp at e0 e1
    subst e0 e1
    exact ⟨_, _, ⟨l, m⟩, rfl, ⟨⟨_, _, rfl, ⟨r0, r1⟩⟩, o0, o1⟩⟩
end Go.Proofs.YtngnenbidpojeaaGreatDoor
/-
  A run of a program that came in: its result, written out.
-/
namespace Go.Proofs.YtngnenbidpojeaaGreatDoor
open Go.RowKit
set_option maxRecDepth 100000
set_option linter.unusedVariables false
/-- Twelve cells. -/
theorem cells12 {w : World} {b : Nat} {v0 v1 v2 v3 v4 v5 v6 v7 v8 v9 v10 v11 : Value} {t : TypeId} (h : w.heap[b]? = some (.cells #[v0, v1, v2, v3, v4, v5, v6, v7, v8, v9, v10, v11] t (0, 0))) : w.cell? ⟨b, 0, none⟩ = some v0 ∧ w.cell? ⟨b, 1, none⟩ = some v1 ∧ w.cell? ⟨b, 2, none⟩ = some v2 ∧ w.cell? ⟨b, 3, none⟩ = some v3 ∧ w.cell? ⟨b, 4, none⟩ = some v4 ∧ w.cell? ⟨b, 5, none⟩ = some v5 ∧ w.cell? ⟨b, 6, none⟩ = some v6 ∧ w.cell? ⟨b, 7, none⟩ = some v7 ∧ w.cell? ⟨b, 8, none⟩ = some v8 ∧ w.cell? ⟨b, 9, none⟩ = some v9 ∧ w.cell? ⟨b, 10, none⟩ = some v10 ∧ w.cell? ⟨b, 11, none⟩ = some v11 := by simp [World.cell?, h]
end Go.Proofs.YtngnenbidpojeaaGreatDoor
/-
  A run's result, in a box that was made ahead of the run or behind it.
-/
namespace Go.Proofs.YtngnenbidpojeaaGreatDoor
open Go.RowKit
set_option maxRecDepth 100000
set_option linter.unusedVariables false
/-- The result in a box of its own; rows and box are new since W0. -/
def ResX (W0 wc : World) (g : Nat) (R : Rsl) : Prop := (∃ ev sn tm, ResB wc g R ev sn tm ∧ (∀ g', ev.ownBlock = some g' → W0.heap.size ≤ g') ∧ (∀ g', sn.ownBlock = some g' → W0.heap.size ≤ g') ∧ (∀ g', tm.ownBlock = some g' → W0.heap.size ≤ g')) ∧ Kept [] W0 wc ∧ W0.heap.size ≤ g
theorem ResX.keep {W0 wc wd : World} {g : Nat} {R : Rsl} (h : ResX W0 wc g R) (k : Kept [] wc wd) : ResX W0 wd g R := by
  obtain ⟨⟨ev, sn, tm, h1, h2⟩, h3, h4⟩ := h
  exact ⟨⟨ev, sn, tm, h1.keep k, h2⟩, h3.then k, h4⟩
/-- Cells that are stored one behind the other over a whole block. -/
theorem store_cells {P : Program} {w : World} {g : Nat} {t : TypeId} {L X : List Value} (hb : w.heap[g]? = some (.cells L.toArray t (0, 0))) (hl : X.length = L.length) (h1 : ∀ v ∈ X, v.oneCell' = true) : ∃ W, (storeCells ⟨g, 0, none⟩ X).run P w = .ok () W ∧ W.heap[g]? = some (.cells X.toArray t (0, 0)) ∧ Kept [g] w W := by
  have h := run_storeCells_at P g 0 t X 0 L.toArray w hb (by simp [hl]) h1
  refine ⟨_, h, ?_, (Kept.refl [g] w).setRow (.inl (by simp)) _⟩
  have hlt := lt_of_block hb
  have h' : w.heap[g] = .cells L.toArray t (0, 0) := by simpa [Array.getElem?_eq_getElem hlt] using hb
  show (w.heap.modify g _)[g]? = _
  rw [Array.getElem?_eq_getElem (by simpa using hlt), Array.getElem_modify_self, h']
  simp [hl]
/-- A result's cells, stored into a box that was made ahead of the run. -/
theorem resX_cells {n g : Nat} {W0 w4 : World} {v : Value} {R : Rsl} (h : IsRs n w4 v R) (K : Kept [] W0 w4) (hn : W0.heap.size ≤ n) : ∃ X : List Value, v = .agg X.toArray ∧ X.length = 12 ∧ ∀ g w5, w5.heap[g]? = some (.cells z12.toArray 103 (0, 0)) → W0.heap.size ≤ g → (g < n ∨ w5 = w4.alloc (.cells z12.toArray 103) ∧ g = w4.heap.size) → (w5 = w4 ∨ w5 = w4.alloc (.cells z12.toArray 103)) → ∃ W, (storeCells ⟨g, 0, none⟩ X).run Tryz.prog w5 = .ok () W ∧ ResX W0 W g R := by
  obtain ⟨⟨ev, sn, tm, rfl, h1, h2, h3, n1, n2, n3⟩, h8⟩ := h
  obtain ⟨a1, c1, f1, -⟩ := h1.form
  obtain ⟨a2, c2, f2, -⟩ := h2.form
  obtain ⟨a3, c3, f3, -⟩ := h3.form
  have hl : (cellsR R.reg ev sn tm R.k).length = 12 := by rw [cellsR_length, h8]
  refine ⟨_, rfl, hl, fun g w5 hb hg hor hw => ?_⟩
  have k5 : Kept [] w4 w5 := by
    rcases hw with rfl | rfl
    · exact Kept.refl [] _
    · exact (Kept.refl [] w4).alloc _
  obtain ⟨W, s1, s2, s3⟩ := store_cells (P := Tryz.prog) (X := cellsR R.reg ev sn tm R.k) hb (by rw [hl]; rfl) (cellsR_one (by rw [f1]; rfl) (by rw [f2]; rfl) (by rw [f3]; rfl))
  have keepR : ∀ {k : Nat} {x : Value} {rs : List (List Value)}, ReadsR k w4 x rs → (∀ g', x.ownBlock = some g' → n ≤ g') → Wide k rs → 0 < k → ReadsR k W x rs := fun {k x rs} hr hx hwd hk0 => by
    rcases hor with hor | ⟨-, rfl⟩
    · exact (hr.keep k5).kept s3 (fun g' h' h2 => by have := hx g' h'; simp at h2; omega)
    · by_cases hne : rs = []
      · subst hne
        obtain ⟨a, cap, e, q1, q2, q3, q4⟩ := hr
        exact ⟨a, cap, e, q1, q2, q3, fun h => absurd rfl h⟩
      · obtain ⟨g', e1, e2⟩ := hr.lt hwd hk0 hne
        exact (hr.keep k5).kept s3 (fun g'' h' h2 => by rw [e1] at h'; injection h' with h'; subst h'; simp at h2; omega)
  exact ⟨W, s1, ⟨ev, sn, tm, ⟨s2, keepR h1 n1 (wideE _) (by omega), keepR h2 n2 (wideS _) (by omega), keepR h3 n3 (wideT _) (by omega), h8⟩, fun g hg => Nat.le_trans hn (n1 g hg), fun g hg => Nat.le_trans hn (n2 g hg), fun g hg => Nat.le_trans hn (n3 g hg)⟩, (K.then k5).trans s3 (fun x hx => .inr (by simp at hx; omega)), hg⟩
end Go.Proofs.YtngnenbidpojeaaGreatDoor
/-
  InterpEvents' walk.
-/
namespace Go.Proofs.YtngnenbidpojeaaGreatDoor
open Go.RowKit
set_option maxRecDepth 100000
set_option linter.unusedVariables false
theorem doA_len (b : List Int) : ∀ (l : List Ev), (doA b l).length = b.length := fun l => by
  induction l generalizing b with
  | nil => rfl
  | cons e l ih => show (doA (b.set e.r e.v) l).length = _; rw [ih, List.length_set]
/-- What is known of any answer. -/
structure RunF (reg : List Int) (now : Int) (R : Rsl × Int) : Prop where
  k : R.1.k ≤ 500
  sent : R.1.sent.length ≤ 4
  err : R.2 ≠ 0 → R.1 = Rsl.none R.1.k ∧ (R.1.k = 500 ∨ R.2 ≠ 11)
  ok : R.2 = 0 → R.1.reg = doA reg R.1.ev ∧ (∀ e ∈ R.1.ev, e.r ≤ 7) ∧ (∀ t ∈ R.1.tm, t.can = false → now ≤ t.due ∧ 1 ≤ t.per)
theorem run_facts {p : Pg} {l : Lt} {now : Int} {reg : List Int} (hO : OkP p) : RunF reg now (resI p reg l now) := by
  unfold resI
  by_cases hm : mayI p l now = true
  · rw [if_pos hm]
    have hf := run_fine (l := l) (formed_named (may_parts hm).1 hO).1 500 0 _ (Fine.start (reg0 := reg) (now := now))
    cases hr : runI p l now 500 0 (Mc.start reg) with
    | ok m k =>
      rw [hr] at hf
      obtain ⟨h1, h2⟩ := hf
      exact ⟨by show k ≤ 500; omega, h1.sent, fun h => absurd rfl h, fun _ => ⟨h1.reg, h1.ev, h1.tm⟩⟩
    | err e k =>
      rw [hr] at hf
      obtain ⟨h1, h2, h3⟩ := hf
      refine ⟨by show k ≤ 500; omega, by show 0 ≤ 4; omega, fun _ => ⟨rfl, ?_⟩, fun h => ?_⟩
      · show k = 500 ∨ e ≠ 11
        by_cases h11 : e = 11
        · exact .inl (by have := h2 h11; omega)
        · exact .inr h11
      · have h : e = 0 := h
        omega
  · rw [if_neg hm]
    exact ⟨by show 0 ≤ 500; omega, by show 0 ≤ 4; omega, fun _ => ⟨rfl, .inr (by decide)⟩, fun h => absurd h (by decide)⟩
section
variable {w : World}
end
end Go.Proofs.YtngnenbidpojeaaGreatDoor
/-
  The document's Key and Same.
-/
namespace Go.Proofs.YtngnenbidpojeaaGreatDoor
open Go.RowKit
set_option maxRecDepth 100000
set_option linter.unusedVariables false
section
variable {w : World}
set_option maxHeartbeats 1000000 in
theorem key32 (s : List UInt8) (hs : s.length ≤ 9223372036854775807) : Calls Tryz.prog 59 #[.string ⟨s.toArray⟩] w fun e w' => e = .returned (.bool (isKey s)) ∧ w = w' := by
  have hz : (⟨s.toArray⟩ : ByteArray).size = s.length := by simp [ByteArray.size]
  unfold isKey
  by_cases h1 : 1 ≤ s.length
  · have h1' : (1 : Int) ≤ (s.length : Int) := by omega
    by_cases h2 : s.length ≤ 40
    · have h2' : (s.length : Int) ≤ 40 := by omega
      have e : (decide (1 ≤ s.length) && decide (s.length ≤ 40)) = true := by simp [h1, h2]
      rw [e]
      go_enter Tryz.func59, Tryz.ntmps59
      go_wp2_with fail
      go_ret
      exact ⟨rfl, rfl⟩
    · have h2' : ¬ (s.length : Int) ≤ 40 := by omega
      have e : (decide (1 ≤ s.length) && decide (s.length ≤ 40)) = false := by simp [h2]
      rw [e]
      go_enter Tryz.func59, Tryz.ntmps59
      go_wp2_with fail
      go_ret
      exact ⟨rfl, rfl⟩
  · have h1' : ¬ (1 : Int) ≤ (s.length : Int) := by omega
    have e : (decide (1 ≤ s.length) && decide (s.length ≤ 40)) = false := by simp [h1]
    rw [e]
    go_enter Tryz.func59, Tryz.ntmps59
    go_wp2_with fail
    go_ret
    exact ⟨rfl, rfl⟩
end
end Go.Proofs.YtngnenbidpojeaaGreatDoor
/-
  The document's Formed.
-/
namespace Go.Proofs.YtngnenbidpojeaaGreatDoor
open Go.RowKit
set_option maxRecDepth 100000
set_option linter.unusedVariables false
/-- The greatest integers that may stand behind an operation. -/
def most6 (nn nc : Nat) : Array Value := #[.int .i64 0, .int .i64 9223372036854775807, .int .i64 7, .int .i64 3, .int .i64 (nc : Int), .int .i64 ((nn : Int) - 1)]
theorem most6_at {W : World} {g nn nc : Nat} {t : TypeId} (h : W.heap[g]? = some (.cells (most6 nn nc) t (0, 0))) {k : Nat} (hk : k ≤ 5) : ∃ M : Int, W.cell? ⟨g, k, none⟩ = some (.int .i64 M) ∧ (k ≠ 1 → M = mostI nn nc k) := by
  match k, hk with
  | 0, _ => exact ⟨0, by simp [World.cell?, h, most6], fun _ => rfl⟩
  | 1, _ => exact ⟨9223372036854775807, by simp [World.cell?, h, most6], fun h => absurd rfl h⟩
  | 2, _ => exact ⟨7, by simp [World.cell?, h, most6], fun _ => rfl⟩
  | 3, _ => exact ⟨3, by simp [World.cell?, h, most6], fun _ => rfl⟩
  | 4, _ => exact ⟨nc, by simp [World.cell?, h, most6], fun _ => rfl⟩
  | 5, _ => exact ⟨(nn : Int) - 1, by simp [World.cell?, h, most6], fun _ => rfl⟩
theorem words_len : ∀ x ∈ words, x.1.length ≤ 10 ∧ x.2 ≤ 5 := by decide
theorem words_some : ∀ x ∈ words, x.1 ≠ [] := by decide
section
variable {w : World}
set_option maxHeartbeats 4000000 in
theorem formed14_N {v u : Value} {p : Pg} (hP : IsP_N w v u p) (hK : ∀ s ∈ p.names, s.length ≤ 9223372036854775807) :
    Calls Tryz.prog 19 #[.agg #[v, u]] w fun e w' => e = .returned (.bool (formedP p)) ∧ Kept [] w w' := by
  obtain ⟨a, c, b, d, rfl, rfl, hl1, hl2⟩ := hP.form
  have HP := Hid.mk hP
  obtain ⟨W0, e0, k0, hz0, hb0⟩ := box1 w (.cells #[.slice a p.names.length c, .slice b p.code.length d] 25)
  obtain ⟨y0, y1⟩ := cells2_N hb0
  have HB0 := Hid.mk hb0
  have HK0 := Hid.mk k0
  clear k0 hb0 hz0 hP
  obtain ⟨R, HR⟩ : ∃ R, Hid (formedP p = R) := ⟨_, rfl⟩
  rw [HR.out]
  by_cases hA : 8 < p.names.length
  · obtain rfl : R = false := by rw [← HR.out]; exact formed_wrong (.inl hA)
    have hA' : (8 : Int) < (p.names.length : Int) := by omega
    clear HR
    go_enter Tryz.func19, Tryz.ntmps19
    go_wp2_with fail
    go_ret
    exact ⟨rfl, HK0.out⟩
  have hA' : ¬ (8 : Int) < (p.names.length : Int) := by omega
  by_cases hB : 200 < p.code.length
  · obtain rfl : R = false := by rw [← HR.out]; exact formed_wrong (.inr hB)
    have hB' : (200 : Int) < (p.code.length : Int) := by omega
    clear HR
    go_enter Tryz.func19, Tryz.ntmps19
    go_wp2_with fail
    go_ret
    exact ⟨rfl, HK0.out⟩
  have hB' : ¬ (200 : Int) < (p.code.length : Int) := by omega
  go_enter Tryz.func19, Tryz.ntmps19
  go_wp2_with fail
  generalize hg : w.heap.size = g at *
  clear hg
  go_loopw [21] (fun i wr => ∃ j : Nat, Hid (Kept [] W0 wr) ∧ i = .int .i64 (j : Int) ∧ j ≤ p.names.length ∧ Hid (∀ i (hi : i < p.names.length), i < j → isKey p.names[i] = true)) (fun i _ => p.names.length - (intOf i).toNat)
  case atStart => exact ⟨0, Hid.mk (Kept.refl [] W0), rfl, by omega, Hid.mk (fun _ _ h => by omega)⟩
  case round =>
    obtain ⟨j, HW, rfl, hj, HJ⟩ := hrel
    have HKW := Hid.mk (HK0.out.then HW.out)
    obtain ⟨x0, x1⟩ := cells2_N (HW.out.keeps HB0.out (by simp))
    by_cases hlt : j < p.names.length
    · obtain ⟨b1, o1, rfl, hc1⟩ := names_at (HP.out.names.keep HKW.out) hlt
      have hjI : (j : Int) < (p.names.length : Int) := by omega
      have hj0 : (0 : Int) ≤ (j : Int) := by omega
      have HC := Hid.mk (key32 (w := wr) p.names[j] (hK _ (List.getElem_mem hlt)))
      have HY := Hid.mk (fun h => formed_name (p := p) hlt h)
      have HT : Hid (isKey p.names[j] = true → ∀ i (hi : i < p.names.length), i < j + 1 → isKey p.names[i] = true) := fun h i hi hij => by
        by_cases e : i = j
        · subst e; exact h
        · exact HJ.out i hi (by omega)
      cases hk : isKey p.names[j] with
      | false =>
        rw [hk] at HC
        obtain rfl : R = false := by rw [← HR.out]; exact HY.out hk
        clear HR HJ HT hk
        generalize (⟨p.names[j].toArray⟩ : ByteArray) = q at *
        go_wp2_with fail
        refine HC.out.mono ?_
        rintro e w1 ⟨rfl, rfl⟩
        go_wp2_with fail
        go_ret
        exact ⟨rfl, HKW.out⟩
      | true =>
        rw [hk] at HC
        have HT' := Hid.mk (HT.out hk)
        clear HJ HT hk
        generalize (⟨p.names[j].toArray⟩ : ByteArray) = q at *
        go_wp2_with fail
        refine HC.out.mono ?_
        rintro e w1 ⟨rfl, rfl⟩
        go_wp2_with fail
        go_roundw
        case rel => exact ⟨j + 1, HW, by go_num, by omega, HT'⟩
        case measure => simp [intOf]; omega
    · have hje : ¬ (j : Int) < (p.names.length : Int) := by omega
      have HJ' : Hid (∀ i (hi : i < p.names.length), isKey p.names[i] = true) := fun i hi => HJ.out i hi (by omega)
      clear HJ
      go_wp2_with fail
      go_loopw [35] (fun i wr => ∃ j : Nat, Hid (Kept [] W0 wr) ∧ i = .int .i64 (j : Int) ∧ j ≤ p.code.length ∧ Hid (∀ i (hi : i < p.code.length), i < j → okI p.names.length p.code.length p.code[i] = true)) (fun i _ => p.code.length - (intOf i).toNat)
      case atStart => exact ⟨0, HW, rfl, by omega, Hid.mk (fun _ _ h => by omega)⟩
      case round =>
        clear HW HKW x0 x1
        obtain ⟨l, HW, rfl, hl, HL⟩ := hrel
        have HKW := Hid.mk (HK0.out.then HW.out)
        have hbr := HW.out.keeps HB0.out (by simp)
        obtain ⟨x0, x1⟩ := cells2_N hbr
        by_cases hlt2 : l < p.code.length
        · obtain ⟨b1, o1, rfl, hc1, hc2⟩ := code_at (HP.out.code.keep HKW.out) hlt2
          have hjI : (l : Int) < (p.code.length : Int) := by omega
          have hj0 : (0 : Int) ≤ (l : Int) := by omega
          have HY := Hid.mk (fun h => formed_code (p := p) hlt2 h)
          have HT : Hid (okI p.names.length p.code.length p.code[l] = true → ∀ i (hi : i < p.code.length), i < l + 1 → okI p.names.length p.code.length p.code[i] = true) := fun h i hi hij => by
            by_cases e : i = l
            · subst e; exact h
            · exact HL.out i hi (by omega)
          obtain ⟨W3, e3, k3, hz3, hb3⟩ := box1 wr (.cells (most6 p.names.length p.code.length) 2)
          have HM := Hid.mk (fun (k : Nat) (h : k ≤ 5) => most6_at hb3 h)
          unfold most6 at e3
          have HK3 := Hid.mk (HW.out.then k3)
          have z0 := k3.cell_eq x0
          have z1 := k3.cell_eq x1
          have z3 := k3.cell_eq hc2
          have wr1 : IntKind.i64.wrap ((p.names.length : Int) - 1) = (p.names.length : Int) - 1 := by rw [IntKind.wrap_i64]; omega
          clear HL hbr hz3 hb3 k3
          by_cases hin : p.code[l].op < 0 ∨ 24 ≤ p.code[l].op
          · have HC := Hid.mk (word28_out (w := wr) hin)
            obtain rfl : R = false := by rw [← HR.out]; exact HY.out (okI_out hin)
            obtain ⟨M, m0, -⟩ := HM.out 0 (by omega)
            clear HR HT HY HM hin
            generalize p.code[l].op = q1 at *
            generalize p.code[l].arg = q2 at *
            go_wp2_with fail
            refine HC.out.mono ?_
            rintro e w1 ⟨rfl, rfl⟩
            go_wp2_with fail
            go_ret
            exact ⟨rfl, HK0.out.then HK3.out⟩
          · obtain ⟨i, hi⟩ : ∃ i : Nat, p.code[l].op = (i : Int) := ⟨p.code[l].op.toNat, by omega⟩
            have hi24 : i < words.length := by rw [words_length]; omega
            obtain ⟨s, k, hw⟩ : ∃ s k, words[i]? = some (s, k) := ⟨words[i].1, words[i].2, by rw [List.getElem?_eq_getElem hi24]⟩
            have hk5 := (words_len _ (List.mem_of_getElem? hw)).2
            have hs := words_some _ (List.mem_of_getElem? hw)
            dsimp only at hk5 hs
            have HC := Hid.mk (word28 (w := wr) hw)
            have hok := okI_at (nn := p.names.length) (nc := p.code.length) hi hw hk5
            have ts : (s == []) = false := by simpa using hs
            have ts2 : s.isEmpty = false := by simpa using hs
            obtain ⟨M, m0, hM⟩ := HM.out k hk5
            have hkI : (k : Int) < 6 := by omega
            have hkN : k < 6 := by omega
            have hk0 : (0 : Int) ≤ (k : Int) := by omega
            rw [hi] at hc1
            have HM2 : Hid (k ≠ 1 → choiceN p.names.length p.code.length k = M + 1) := fun h => by rw [choice_most hk5 h, hM h]
            clear HM hw hs hi24 hi hM
            have HZ := Hid.mk z3
            by_cases h1 : k = 1
            · subst h1
              have HT' := Hid.mk (HT.out (by rw [hok]; simp))
              clear hok HT HY HM2
              generalize p.code[l].arg = q2 at *
              go_wp2_with fail
              refine HC.out.mono ?_
              rintro e w1 ⟨rfl, rfl⟩
              go_wp2_with fail
              go_roundw
              case rel => exact ⟨l + 1, HK3, by go_num, by omega, HT'⟩
              case measure => simp [intOf]; omega
            · have t1 : ((k : Int) == 1) = false := by simp; omega
              have t1' : ((k : Int) != 1) = true := by simp; omega
              rw [HM2.out h1] at hok
              generalize p.code[l].arg = q2 at *
              by_cases h2 : q2 < 0
              · obtain rfl : R = false := by rw [← HR.out]; exact HY.out (by rw [hok]; simp; omega)
                clear hok HT HY HM2 HR
                go_wp2_with fail
                refine HC.out.mono ?_
                rintro e w1 ⟨rfl, rfl⟩
                go_wp2_with fail
                go_ret
                exact ⟨rfl, HK0.out.then HK3.out⟩
              · by_cases h3 : M < q2
                · obtain rfl : R = false := by rw [← HR.out]; exact HY.out (by rw [hok]; simp; omega)
                  clear hok HT HY HM2 HR
                  go_wp2_with fail
                  refine HC.out.mono ?_
                  rintro e w1 ⟨rfl, rfl⟩
                  go_wp2_with fail
                  go_ret
                  exact ⟨rfl, HK0.out.then HK3.out⟩
                · have HT' := Hid.mk (HT.out (by rw [hok]; simp; omega))
                  clear hok HT HY HM2
                  go_wp2_with fail
                  refine HC.out.mono ?_
                  rintro e w1 ⟨rfl, rfl⟩
                  go_wp2_with fail
                  go_roundw
                  case rel => exact ⟨l + 1, HK3, by go_num, by omega, HT'⟩
                  case measure => simp [intOf]; omega
        · have hje2 : ¬ (l : Int) < (p.code.length : Int) := by omega
          obtain rfl : R = true := by rw [← HR.out]; exact formed_yes (by omega) (by omega) HJ'.out (fun i hi => HL.out i hi (by omega))
          clear HL HR
          go_wp2_with fail
          go_ret
          exact ⟨rfl, HKW.out⟩
end
end Go.Proofs.YtngnenbidpojeaaGreatDoor
