/-
  Programs that came in.
-/
import Derived.Test.YtpodoiichpnpjaaDoorPm
import Derived.Deep.Slices
import Derived.ChangeArms
import Derived.OpenShut
import Derived.SizedLaws
namespace Go.Proofs.YtpodoiichpnpjaaDoor
set_option maxRecDepth 100000
open Go.RowKit Go.Deep Go.ChangeShapes
set_option linter.unusedVariables false
theorem open_instr {H : Type} {enc : TypeId × Value → H} {W : World} {fuel : Nat} {cs : List Value} {x : DataW H × List MemPlace} (h : DataW.trod enc Tryd.prog W 0 (fun _ => true) true fuel 75 cs = some x) (hl : cs.length = 2) :
    ∃ e : In, cs = [.int .i64 e.op, .int .i64 e.arg] ∧ I64 e.op ∧ I64 e.arg := by
  obtain ⟨xs, k, hk, hxy, _, hxl, hf⟩ := DataW.trod_struct Tryd.underlying75 h
  match xs, hxl, cs, hl with
  | [y0, y1], _, [v0, v1], _ =>
    have g0 := hf 0 _ rfl
    have g1 := hf 1 _ rfl
    simp [show Tryd.prog.cellsOf 3 = 1 by kernel_rfl, show Tryd.prog.cellsOf 2 = 1 by kernel_rfl] at g0 g1
    obtain ⟨a, e0, f0, w0⟩ := DataW.trod_int Tryd.underlying3 g0
    obtain ⟨b, e1, f1, w1⟩ := DataW.trod_int Tryd.underlying2 g1
    simp at e0 e1
    subst e0 e1
    exact ⟨⟨a, b⟩, rfl, bounds_i64 w0, bounds_i64 w1⟩
/-- A row of k cells an element that came in. -/
theorem open_row {α : Type} [Inhabited α] {H : Type} {enc : TypeId × Value → H} {W : World} {fuel : Nat} {cs : List Value} {x : DataW H × List MemPlace} {T e : TypeId} {k : Nat} (hT : Tryd.prog.underlying T = some (.slice e)) (hk : Tryd.prog.cellsOf e = k) (hk0 : 0 < k) (cellsA : α → List Value) (ok : α → Prop)
    (hlen : ∀ a, (cellsA a).length = k)
    (each1 : ∀ (n : Nat) (cs : List Value) (y : DataW H × List MemPlace), DataW.trod enc Tryd.prog W 0 (fun _ => true) true n e cs = some y → cs.length = k → ∃ a, cs = cellsA a ∧ ok a)
    (h : DataW.trod enc Tryd.prog W 0 (fun _ => true) true fuel T cs = some x) :
    ∃ (v : Value) (l : List α), cs = [v] ∧ ReadsR k W v (l.map cellsA) ∧ ∀ a ∈ l, ok a := by
  rcases open_slice hT h with ⟨h0, hx⟩ | ⟨a, len, cap, m, n, D, Pl, hcs, hb, hl, hm, hmm, hx, hel⟩
  · exact ⟨_, [], h0, ReadsR.nil k W, by simp⟩
  · have hm' : m = cap := by simpa using hmm
    subst hm'
    have each : ∀ i, i < len → ∃ q : α, (∀ j y, (cellsA q)[j]? = some y → W.cell? (a.add (i * k + j)) = some y) ∧ ok q := by
      intro i hi
      obtain ⟨cs', h1, h2⟩ := hel i (by omega)
      rw [hk] at h1
      obtain ⟨_, hlen', hcell⟩ := World.cells?_some h1
      obtain ⟨q, rfl, hok⟩ := each1 _ _ _ h2 (by simpa using hlen')
      refine ⟨q, fun j y hy => ?_, hok⟩
      have hj := (List.getElem?_eq_some_iff.1 hy).1
      have := hcell j (by rw [hlen] at hj; exact hj)
      rw [addr_add_add] at this
      rw [this]
      simp [hy]
    obtain ⟨f, hfp⟩ := choose_lt each
    have hll : ((List.range len).map f).length = len := by simp
    refine ⟨_, (List.range len).map f, hcs, ⟨some a, m, by rw [List.length_map, hll], by rw [List.length_map, hll]; omega, hm, by simp, fun hne => ?_⟩, ?_⟩
    · have hpos : 0 < len := by
        rcases Nat.eq_zero_or_pos len with h | h
        · subst h; simp at hne
        · exact h
      obtain ⟨b, o, spot⟩ := a
      have hq0 : ∃ y, (cellsA (f 0))[0]? = some y := ⟨(cellsA (f 0))[0]'(by rw [hlen]; exact hk0), by simp⟩
      obtain ⟨y, hy⟩ := hq0
      have hc := (hfp 0 (by omega)).1 0 y hy
      have hspot : spot = none := by simpa [Addr.add] using World.cell?_spot hc
      subst hspot
      refine ⟨b, o, rfl, fun j r hr i y hy => ?_⟩
      rw [List.getElem?_map, Option.map_eq_some_iff] at hr
      obtain ⟨p, hp, rfl⟩ := hr
      have hj : j < len := by
        have := (List.getElem?_eq_some_iff.1 hp).1
        simpa using this
      have hpf : p = f j := by
        rw [List.getElem?_map] at hp
        simp [hj] at hp
        exact hp.symm
      subst hpf
      have := (hfp j hj).1 i y hy
      rw [add_at] at this
      rw [Nat.add_assoc]
      exact this
    · intro q hq
      obtain ⟨i, hi, rfl⟩ := List.mem_map.1 hq
      exact (hfp i (by simpa using hi)).2
theorem size_list (s : ByteArray) : s.size = s.data.toList.length := by
  rw [Array.length_toList]
  rfl
/-- A program that came in. -/
structure PgIn (W : World) (v : Value) (p : Pg) : Prop where
  form : ∃ a b, v = .agg #[a, b] ∧ IsP W a b p
  names : ∀ s ∈ p.names, s.length ≤ 9223372036854775807
  code : ∀ x ∈ p.code, I64 x.op ∧ I64 x.arg
theorem open_prog {H : Type} {enc : TypeId × Value → H} {W : World} {fuel : Nat} {cs : List Value} {x : DataW H × List MemPlace} (h : DataW.trod enc Tryd.prog W 0 (fun _ => true) true fuel 25 cs = some x) :
    ∃ a b p, cs = [a, b] ∧ PgIn W (.agg #[a, b]) p := by
  obtain ⟨xs, k, hk, hxy, hcl, hxl, hf⟩ := DataW.trod_struct Tryd.underlying25 h
  have hc2 : cs.length = 2 := hcl.trans (show Tryd.prog.cellsOf 25 = 2 by kernel_rfl)
  match xs, hxl, cs, hc2 with
  | [y0, y1], _, [v0, v1], _ =>
    have g0 := hf 0 _ rfl
    have g1 := hf 1 _ rfl
    simp [show Tryd.prog.cellsOf 22 = 1 by kernel_rfl, show Tryd.prog.cellsOf 23 = 1 by kernel_rfl] at g0 g1
    obtain ⟨v, l, e0, r0, o0⟩ := open_row (α := List UInt8) Tryd.underlying22 (show Tryd.prog.cellsOf 9 = 1 by kernel_rfl) (by omega) (fun s => [.string ⟨s.toArray⟩]) (fun s => s.length ≤ 9223372036854775807) (fun _ => rfl) (fun n cs y hy hl => by
      obtain ⟨s, e, -, hs⟩ := DataW.trod_string Tryd.underlying9 hy
      refine ⟨s.data.toList, by rw [e], ?_⟩
      have : s.size = s.data.toList.length := size_list s
      rw [← this]
      exact Nat.le_trans hs (by decide)) g0
    obtain ⟨u, m, e1, r1, o1⟩ := open_row (α := In) Tryd.underlying23 (show Tryd.prog.cellsOf 75 = 2 by kernel_rfl) (by omega) (fun x => [.int .i64 x.op, .int .i64 x.arg]) (fun x => I64 x.op ∧ I64 x.arg) (fun _ => rfl) (fun n cs y hy hl => open_instr hy hl) g1
    simp at e0 e1
    subst e0 e1
    exact ⟨_, _, ⟨l, m⟩, rfl, ⟨⟨_, _, rfl, ⟨r0, r1⟩⟩, o0, o1⟩⟩
end Go.Proofs.YtpodoiichpnpjaaDoor
