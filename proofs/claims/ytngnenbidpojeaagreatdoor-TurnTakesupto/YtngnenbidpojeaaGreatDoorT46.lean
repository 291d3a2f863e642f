import Derived.Test.YtngnenbidpojeaaGreatDoorT13
import Derived.Test.YtngnenbidpojeaaGreatDoorT15
import Derived.Test.YtngnenbidpojeaaGreatDoorT32
import Derived.Test.YtngnenbidpojeaaGreatDoorT40
import Derived.Test.YtngnenbidpojeaaGreatDoorT42
/-
 What an actor has at first, as it came in, and what its size is at most.
-/
namespace Go.Proofs.YtngnenbidpojeaaGreatDoor
set_option maxRecDepth 100000
open Go.RowKit Go.Deep Go.ChangeShapes
set_option linter.unusedVariables false
theorem bulk_app {H : Type} (a b : List (DataW H)) : Rows.uptoBulkAll (a ++ b) = Rows.uptoBulkAll a + Rows.uptoBulkAll b := by
 induction a with
 | nil => simp [Rows.uptoBulkAll]
 | cons x r ih => simp only [List.cons_append, Rows.uptoBulkAll, ih]; omega
theorem bulk_range {H : Type} (f : Nat → Nat) (D : Nat → DataW H) : ∀ n, (∀ i, i < n → f i ≤ Rows.uptoBulk (D i)) → ((List.range n).map f).sum ≤ Rows.uptoBulkAll ((List.range n).map D)
 | 0, _ => by simp
 | n + 1, h => by
  rw [List.range_succ, List.map_append, List.map_append, bulk_app, List.sum_append]
  have h1 := bulk_range f D n (fun i hi => h i (by omega))
  have h2 := h n (by omega)
  simp only [List.map_cons, List.map_nil, List.sum_cons, List.sum_nil, Rows.uptoBulkAll]
  omega
theorem open_letZ {H : Type} {enc : TypeId × Value → H} {W : World} {fuel : Nat} {cs : List Value} {x : DataW H × List MemPlace} (h : DataW.trod enc Tryz.prog W 0 (fun _ => true) true fuel 81 cs = some x) (hl : cs.length = 4) :
  ∃ q : Lq, cs = cellsQ q ∧ ReadsJ W q.sl q.x.args ∧ q.x.ok ∧ q.x.args.length + q.x.fr.length + 1 ≤ Rows.uptoBulk x.1 := by
 obtain ⟨xs, k, hk, hxy, _, hxl, hf⟩ := DataW.trod_struct Tryz.underlying81 h
 match xs, hxl, cs, hl with
 | [y0, y1, y2, y3], _, [v0, v1, v2, v3], _ =>
  have g0 := hf 0 _ rfl
  have g1 := hf 1 _ rfl
  have g2 := hf 2 _ rfl
  have g3 := hf 3 _ rfl
  simp [show Tryz.prog.cellsOf 9 = 1 by kernel_rfl, show Tryz.prog.cellsOf 78 = 1 by kernel_rfl, show Tryz.prog.cellsOf 2 = 1 by kernel_rfl, show Tryz.prog.cellsOf 79 = 1 by kernel_rfl] at g0 g1 g2 g3
  obtain ⟨s, e0, f0, w0⟩ := DataW.trod_string Tryz.underlying9 g0
  obtain ⟨n, e1, f1, w1⟩ := DataW.trod_int Tryz.underlying78 g1
  obtain ⟨kd, e2, f2, w2⟩ := DataW.trod_int Tryz.underlying2 g2
  simp at e0 e1 e2
  subst e0 e1 e2
  have b1 := bounds_u64 w1
  have b2 := bounds_i64 w2
  obtain ⟨m, rfl⟩ := Int.eq_ofNat_of_zero_le b1.1
  have hs : Sv s.data.toList = .string s := by
   obtain ⟨d⟩ := s
   simp
  have fin : ∀ B, ReadsJ W v3 B → (∀ z ∈ B, I64 z) → B.length + 1 ≤ Rows.uptoBulk y3.1 → ∃ q : Lq, [Value.string s, .int .u64 (m : Int), .int .i64 kd, v3] = cellsQ q ∧ ReadsJ W q.sl q.x.args ∧ q.x.ok ∧ q.x.args.length + q.x.fr.length + 1 ≤ Rows.uptoBulk x.1 := fun B hB hBl hBk => by
   obtain ⟨a', c', rfl, _⟩ := hB.form
   refine ⟨⟨⟨s.data.toList, m, kd, B⟩, a', c'⟩, by rw [← hs]; rfl, hB, ⟨by show m < _; omega, b2, hBl⟩, ?_⟩
   rw [hxy, f0]
   show B.length + s.data.toList.length + 1 ≤ _
   simp only [List.map_cons, Rows.uptoBulk, Rows.uptoBulkAll]
   omega
  rcases open_ints Tryz.underlying79 Tryz.underlying2 (by kernel_rfl) g3 with ⟨hcs3, hx3⟩ | ⟨y, l, c, zs, hcs3, _, hl3, hm3, hz, hx3, hcell3, hwz⟩
  ·simp at hcs3
   subst hcs3
   exact fin [] (ReadsJ.nil W) (by simp) (by rw [hx3]; simp [Rows.uptoBulk])
  ·simp at hcs3
   subst hcs3
   obtain ⟨B, hB, hBl, _⟩ := readsJ_of_row W y zs hl3 hm3 (by simpa using hz) hcell3 hwz
   refine fin B hB hBl ?_
   obtain ⟨_, _, eB, -, -⟩ := hB.form
   injection eB with _ eB _
   rw [hx3]
   simp only [Rows.uptoBulk, bulk_lits, List.length_take]
   have hz' : zs.length = _ := hz
   simp at hz'
   omega
theorem open_letsZ {H : Type} {enc : TypeId × Value → H} {W : World} {fuel : Nat} {cs : List Value} {x : DataW H × List MemPlace} (h : DataW.trod enc Tryz.prog W 0 (fun _ => true) true fuel 26 cs = some x) :
  ∃ v l, cs = [v] ∧ LetsIn W v l ∧ wL l ≤ Rows.uptoBulk x.1 := by
 rcases open_slice Tryz.underlying26 h with ⟨h0, hx⟩ | ⟨a, len, cap, m, n, D, Pl, hcs, hb, hl, hm, hmm, hx, hel⟩
 ·exact ⟨_, [], h0, ⟨ReadsR.nil 4 W, by intro x hx; simp at hx, by simp⟩, by simp [wL]⟩
 ·have hm' : m = cap := by simpa using hmm
  subst hm'
  have each : ∀ i, i < len → ∃ q : Lq, (∀ j y, (cellsQ q)[j]? = some y → W.cell? (a.add (i * 4 + j)) = some y) ∧ ReadsJ W q.sl q.x.args ∧ q.x.ok ∧ q.x.args.length + q.x.fr.length + 1 ≤ Rows.uptoBulk (D i) := by
   intro i hi
   obtain ⟨cs', h1, h2⟩ := hel i (by omega)
   rw [show Tryz.prog.cellsOf 81 = 4 by kernel_rfl] at h1
   obtain ⟨_, hlen, hcell⟩ := World.cells?_some h1
   obtain ⟨q, rfl, hr, hk, hbk⟩ := open_letZ h2 (by simpa using hlen)
   refine ⟨q, fun j y hy => ?_, hr, hk, hbk⟩
   have hj := (List.getElem?_eq_some_iff.1 hy).1
   have := hcell j (by simpa [cellsQ] using hj)
   rw [addr_add_add] at this
   rw [this]
   simp [hy]
  obtain ⟨f, hfp⟩ := choose_lt each
  have hll : ((List.range len).map f).length = len := by simp
  refine ⟨_, (List.range len).map f, hcs, ⟨⟨some a, m, by rw [CQ_length, hll], by rw [CQ_length, hll]; omega, hm, by simp, fun hne => ?_⟩, ?_, ?_⟩, ?_⟩
  ·have hpos : 0 < len := by
    rcases Nat.eq_zero_or_pos len with h | h
    ·subst h; simp [CQ] at hne
    ·exact h
   obtain ⟨b, o, spot⟩ := a
   have hc := (hfp 0 (by omega)).1 0 _ rfl
   have hspot : spot = none := by simpa [Addr.add] using World.cell?_spot hc
   subst hspot
   refine ⟨b, o, rfl, fun j r hr i y hy => ?_⟩
   have hr' : ((List.range len).map f).map cellsQ = CQ ((List.range len).map f) := rfl
   rw [← hr', List.getElem?_map, Option.map_eq_some_iff] at hr
   obtain ⟨p, hp, rfl⟩ := hr
   have hj : j < len := by
    have := (List.getElem?_eq_some_iff.1 hp).1
    simpa using this
   rw [List.getElem?_map, List.getElem?_range hj] at hp
   simp at hp
   subst hp
   have := (hfp j hj).1 i y hy
   rw [add_at] at this
   rw [Nat.add_assoc]
   exact this
  ·intro x hx
   simp only [List.mem_map, List.mem_range] at hx
   obtain ⟨i, hi, rfl⟩ := hx
   exact (hfp i hi).2.1
  ·intro x hx
   simp only [List.mem_map, List.mem_range] at hx
   obtain ⟨i, hi, rfl⟩ := hx
   exact (hfp i hi).2.2.1
  ·rw [hx]
   have := bulk_range (fun i => (f i).x.args.length + (f i).x.fr.length + 1) D len (fun i hi => (hfp i hi).2.2.2)
   unfold wL
   rw [List.map_map]
   simp only [Rows.uptoBulk]
   exact Nat.le_trans this (by omega)
theorem open_textsZ {H : Type} {enc : TypeId × Value → H} {W : World} {fuel : Nat} {cs : List Value} {x : DataW H × List MemPlace} (h : DataW.trod enc Tryz.prog W 0 (fun _ => true) true fuel 22 cs = some x) :
  ∃ v l, cs = [v] ∧ TextsIn W v l ∧ wT l ≤ Rows.uptoBulk x.1 := by
 rcases open_slice Tryz.underlying22 h with ⟨h0, hx⟩ | ⟨a, len, cap, m, n, D, Pl, hcs, hb, hl, hm, hmm, hx, hel⟩
 ·exact ⟨_, [], h0, ReadsR.nil 1 W, by simp [wT]⟩
 ·have hm' : m = cap := by simpa using hmm
  subst hm'
  have each : ∀ i, i < len → ∃ t : List UInt8, W.cell? (a.add i) = some (Sv t) ∧ t.length + 1 ≤ Rows.uptoBulk (D i) := by
   intro i hi
   obtain ⟨cs', h1, h2⟩ := hel i (by omega)
   rw [show Tryz.prog.cellsOf 9 = 1 by kernel_rfl] at h1
   obtain ⟨_, hlen, hcell⟩ := World.cells?_some h1
   obtain ⟨s, e0, f0, w0⟩ := DataW.trod_string Tryz.underlying9 h2
   subst e0
   have h5 := hcell 0 (by simp)
   rw [addr_add_add] at h5
   have hD : D i = .lit (.string s.data.toList) := by injection f0
   refine ⟨s.data.toList, ?_, by rw [hD]; simp [Rows.uptoBulk]⟩
   have hs : Sv s.data.toList = .string s := by
    obtain ⟨d⟩ := s
    simp
   rw [hs]
   simpa using h5
  obtain ⟨f, hfp⟩ := choose_lt each
  have hll : (CT ((List.range len).map f)).length = len := by simp [CT]
  refine ⟨_, (List.range len).map f, hcs, ⟨some a, m, by rw [hll], by rw [hll]; omega, hm, by simp, fun hne => ?_⟩, ?_⟩
  rotate_left
  ·rw [hx]
   have := bulk_range (fun i => (f i).length + 1) D len (fun i hi => (hfp i hi).2)
   unfold wT
   rw [List.map_map]
   simp only [Rows.uptoBulk]
   exact Nat.le_trans this (by omega)
  have hpos : 0 < len := by
   rcases Nat.eq_zero_or_pos len with h | h
   ·subst h; simp [CT] at hne
   ·exact h
  obtain ⟨b, o, spot⟩ := a
  have hc := (hfp 0 (by omega)).1
  have hspot : spot = none := by simpa [Addr.add] using World.cell?_spot hc
  subst hspot
  refine ⟨b, o, rfl, fun j r hr i y hy => ?_⟩
  rw [CT, List.getElem?_map, Option.map_eq_some_iff] at hr
  obtain ⟨p, hp, rfl⟩ := hr
  have hj : j < len := by
   have := (List.getElem?_eq_some_iff.1 hp).1
   simpa using this
  rw [List.getElem?_map, List.getElem?_range hj] at hp
  simp at hp
  subst hp
  have hi : i = 0 := by
   have := (List.getElem?_eq_some_iff.1 hy).1
   simp at this
   exact this
  subst hi
  simp at hy
  subst hy
  have := (hfp j hj).1
  rw [add_at] at this
  rw [Nat.mul_one, Nat.add_zero]
  exact this
theorem open_startZ {H : Type} {enc : TypeId × Value → H} {W : World} {fuel : Nat} {cs : List Value} {x : DataW H × List MemPlace} (h : DataW.trod enc Tryz.prog W 0 (fun _ => true) true fuel 29 cs = some x) :
  ∃ (b0 b1 b2 b3 b4 : Value) (ls ps : List Lq) (ts : List (List UInt8)) (es : List Ep) (tr : Int), cs = [b0, b1, b2, b3, b4] ∧ (wL ls + wL ps + wT ts ≤ Rows.uptoBulk x.1) ∧ (wL ls + wL ps + wT ts ≤ 2000000 → StIn W (.agg #[b0, b1, b2, b3, b4]) ls ps ts es tr) := by
 obtain ⟨xs, k, hk, hxy, hcl, hxl, hf⟩ := DataW.trod_struct Tryz.underlying29 h
 have hc5 : cs.length = 5 := hcl.trans (show Tryz.prog.cellsOf 29 = 5 by kernel_rfl)
 match xs, hxl, cs, hc5 with
 | [y0, y1, y2, y3, y4], _, [v0, v1, v2, v3, v4], _ =>
  have g0 := hf 0 _ rfl
  have g1 := hf 1 _ rfl
  have g2 := hf 2 _ rfl
  have g3 := hf 3 _ rfl
  have g4 := hf 4 _ rfl
  simp [show Tryz.prog.cellsOf 26 = 1 by kernel_rfl, show Tryz.prog.cellsOf 22 = 1 by kernel_rfl, show Tryz.prog.cellsOf 27 = 1 by kernel_rfl, show Tryz.prog.cellsOf 3 = 1 by kernel_rfl] at g0 g1 g2 g3 g4
  obtain ⟨z0, ls, e0, hl, s0⟩ := open_letsZ g0
  obtain ⟨z1, ps, e1, hp, s1⟩ := open_letsZ g1
  obtain ⟨z2, ts, e2, ht, s2⟩ := open_textsZ g2
  obtain ⟨z3, es, e3, he⟩ := open_evs g3
  obtain ⟨tr, e4, f4, w4⟩ := DataW.trod_int Tryz.underlying3 g4
  simp at e0 e1 e2 e3 e4
  subst e0 e1 e2 e3 e4
  obtain ⟨a1, c1, rfl, -, -⟩ := hl.1.form
  obtain ⟨a2, c2, rfl, -, -⟩ := hp.1.form
  obtain ⟨a3, c3, rfl, -, -⟩ := ReadsR.form ht
  refine ⟨_, _, _, _, _, ls, ps, ts, es, tr, rfl, ?_, fun hs => ⟨⟨_, _, _, _, _, _, _, _, _, _, rfl, hl, hp, ht, he⟩, hs, bounds_i64 w4⟩⟩
  rw [hxy]
  simp only [List.map_cons, Rows.uptoBulk, Rows.uptoBulkAll]
  omega
end Go.Proofs.YtngnenbidpojeaaGreatDoor
