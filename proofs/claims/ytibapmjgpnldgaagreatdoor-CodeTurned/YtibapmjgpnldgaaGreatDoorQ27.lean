import Derived.Deep.Slices
import Derived.ChangeArms
import Derived.OpenShut
import Derived.SizedLaws
import Derived.Test.YtibapmjgpnldgaaGreatDoorCards
import Derived.Test.YtibapmjgpnldgaaGreatDoorTie
import Derived.Test.YtibapmjgpnldgaaGreatDoorRows
import Derived.ProofKit
import Derived.LaidLaws
import Derived.Deep.DeepHandedRow
import Derived.Deep.DeepWitnessRowRef
import Derived.Test.YtibapmjgpnldgaaGreatDoorQ16
import Derived.Test.YtibapmjgpnldgaaGreatDoorQ22
import Derived.Test.YtibapmjgpnldgaaGreatDoorQ24
import Derived.Test.YtibapmjgpnldgaaGreatDoorQ25
/-
  awake, Few.
-/
namespace Go.Proofs.YtibapmjgpnldgaaGreatDoor
open Go.RowKit
set_option maxRecDepth 100000
set_option linter.unusedVariables false
def litA : List UInt8 := [110, 97, 109, 101, 32, 54, 50, 10, 108, 111, 97, 100, 32, 48, 10, 112, 117, 115, 104, 32, 49, 10, 97, 100, 100, 10, 115, 116, 111, 114, 101, 32, 48, 10]
def pgA : Pg := ⟨[[98]], [⟨2, 0⟩, ⟨1, 1⟩, ⟨6, 0⟩, ⟨3, 0⟩]⟩
theorem parseA : parseP litA = .inr pgA := by rfl
/-- What Few answers. -/
def FewAt (p : Pg) (e : Ending) : Prop := (e = .returned (.bool true) ∧ (∀ s ∈ p.names, s.length ≤ 1000) ∧ p.names.length ≤ 51 ∧ p.code.length ≤ 1000) ∨ e = .returned (.bool false)
section
variable {w : World}
set_option maxHeartbeats 1000000 in
theorem awake8 (hG : Glob w) : Calls Tryz.prog 4 #[] w fun e w' => e = .returned (.bool true) ∧ Kept [] w w' := by
  have HC := Hid.mk (parse17 hG litA (by decide))
  clear hG
  go_enter Tryz.func4, Tryz.ntmps4
  go_wp2_with fail
  refine HC.out.mono ?_
  rintro e w1 ⟨hp, k1⟩
  obtain ⟨v, u, hi, rfl⟩ : ∃ v u, IsP w1 v u pgA ∧ e = .returned (.tuple #[.agg #[v, u], .int .i64 0, .int .i64 0]) := by
    rcases hp with ⟨h, -⟩ | ⟨h, n, hn, -⟩ | ⟨h, p, v, u, hp, hi, he⟩
    · exact absurd h (by decide)
    · rw [parseA] at hn; cases hn
    · rw [parseA] at hp
      cases hp
      exact ⟨v, u, hi, he⟩
  obtain ⟨a, c, b, d, rfl, rfl, -, -⟩ := hi.form
  obtain ⟨b1, o1, rfl, n1⟩ := names_at (j := 0) hi.names (by decide)
  obtain ⟨b2, o2, rfl, -, n2⟩ := code_at (j := 1) hi.code (by decide)
  obtain ⟨W2, e2, k2, hz2, hb2⟩ := box1 w1 (.cells #[.slice (some ⟨b1, o1, none⟩) pgA.names.length c, .slice (some ⟨b2, o2, none⟩) pgA.code.length d] 33)
  have m1 := k2.cell_eq n1
  have m2 := k2.cell_eq n2
  obtain ⟨y0, y1⟩ := cells2 hb2
  have HK := Hid.mk (k1.then k2)
  have l1 : pgA.names.length = 1 := rfl
  have l2 : pgA.code.length = 4 := rfl
  have l3 : pgA.names[0] = [98] := rfl
  have l4 : pgA.code[1].arg = 1 := rfl
  rw [l1] at e2 y0 ⊢
  rw [l2] at e2 y1 ⊢
  rw [l3] at m1
  rw [l4] at m2
  have m1' : W2.cell? ⟨b1, o1, none⟩ = some (.string ⟨[98].toArray⟩) := m1
  have m2' : W2.cell? ⟨b2, o2 + 2 + 1, none⟩ = some (.int .i64 1) := m2
  have m2'' : W2.cell? ⟨b2, o2 + 3, none⟩ = some (.int .i64 1) := m2
  clear hi hp n1 n2 k1 k2 hz2 hb2 HC l1 l2 l3 l4
  go_wp2_with fail
  go_ret
  exact ⟨rfl, HK.out⟩
set_option maxHeartbeats 1000000 in
theorem few9 {v u : Value} {p : Pg} (hP : IsP w v u p) (hK : ∀ s ∈ p.names, s.length ≤ 9223372036854775807) : Calls Tryz.prog 5 #[.agg #[v, u]] w fun e w' => FewAt p e ∧ Kept [] w w' := by
  obtain ⟨a, c, b, d, rfl, rfl, hl1, hl2⟩ := hP.form
  obtain ⟨W0, e0, k0, hz0, hb0⟩ := box1 w (.cells #[.slice a p.names.length c, .slice b p.code.length d] 25)
  obtain ⟨y0, y1⟩ := cells2 hb0
  have HP := Hid.mk (hP.keep k0)
  have HK0 := Hid.mk k0
  have HKn := Hid.mk hK
  clear hP k0 hb0 hz0 hK
  go_enter Tryz.func5, Tryz.ntmps5
  go_wp2_with fail
  generalize w.heap.size = g at *
  go_loopw [7] (fun i wr => ∃ j : Nat, i = .int .i64 (j : Int) ∧ j ≤ p.names.length ∧ j ≤ 51 ∧ Hid (W0 = wr) ∧ Hid (∀ i (hi : i < p.names.length), i < j → p.names[i].length ≤ 1000)) (fun i _ => p.names.length - (intOf i).toNat)
  case atStart => exact ⟨0, rfl, by omega, by omega, Hid.mk rfl, Hid.mk (fun _ _ h => by omega)⟩
  case round =>
    obtain ⟨j, rfl, hj, hj51, HW, HJ⟩ := hrel
    obtain rfl := HW.out
    clear HW
    by_cases hlt : j < p.names.length
    · obtain ⟨b1, o1, rfl, hc1⟩ := names_at HP.out.names hlt
      have hjI : (j : Int) < (p.names.length : Int) := by omega
      have hj0 : (0 : Int) ≤ (j : Int) := by omega
      have hz : (⟨p.names[j].toArray⟩ : ByteArray).size = p.names[j].length := by simp [ByteArray.size]
      have hm := HKn.out _ (List.getElem_mem hlt)
      have HT : Hid (p.names[j].length ≤ 1000 → ∀ i (hi : i < p.names.length), i < j + 1 → p.names[i].length ≤ 1000) := fun h i hi hij => by
        by_cases e : i = j
        · subst e; exact h
        · exact HJ.out i hi (by omega)
      clear HJ
      generalize p.names[j] = nm at *
      by_cases h1 : 1000 < nm.length
      · have h1I : (1000 : Int) < (nm.length : Int) := by omega
        go_wp2_with fail
        go_ret
        exact ⟨.inr rfl, HK0.out⟩
      · have h1I : ¬ (1000 : Int) < (nm.length : Int) := by omega
        by_cases h2 : 50 < j
        · have h2I : (50 : Int) < (j : Int) := by omega
          go_wp2_with fail
          go_ret
          exact ⟨.inr rfl, HK0.out⟩
        · have h2I : ¬ (50 : Int) < (j : Int) := by omega
          go_wp2_with fail
          go_roundw
          case rel => exact ⟨j + 1, by go_num, by omega, by omega, by trivial, Hid.mk (HT.out (by omega))⟩
          case measure => simp [intOf]; omega
    · have hje : ¬ (j : Int) < (p.names.length : Int) := by omega
      by_cases h3 : p.code.length ≤ 1000
      · have h3I : (p.code.length : Int) ≤ 1000 := by omega
        go_wp2_with fail
        go_ret
        refine ⟨.inl ⟨rfl, fun s hs => ?_, by omega, h3⟩, HK0.out⟩
        obtain ⟨i, hi, rfl⟩ := List.getElem_of_mem hs
        exact HJ.out i hi (by omega)
      · have h3I : ¬ (p.code.length : Int) ≤ 1000 := by omega
        go_wp2_with fail
        go_ret
        exact ⟨.inr rfl, HK0.out⟩
end
end Go.Proofs.YtibapmjgpnldgaaGreatDoor
/-
  Programs that came in.
-/
namespace Go.Proofs.YtibapmjgpnldgaaGreatDoor
set_option maxRecDepth 100000
open Go.RowKit Go.Deep Go.ChangeShapes
set_option linter.unusedVariables false
theorem open_instr {H : Type} {enc : TypeId × Value → H} {W : World} {fuel : Nat} {cs : List Value} {x : DataW H × List MemPlace} (h : DataW.trod enc Tryz.prog W 0 (fun _ => true) true fuel 53 cs = some x) (hl : cs.length = 2) :
    ∃ e : In, cs = [.int .i64 e.op, .int .i64 e.arg] ∧ I64 e.op ∧ I64 e.arg := by
  obtain ⟨xs, k, hk, hxy, _, hxl, hf⟩ := DataW.trod_struct Tryz.underlying53 h
  match xs, hxl, cs, hl with
  | [y0, y1], _, [v0, v1], _ =>
    have g0 := hf 0 _ rfl
    have g1 := hf 1 _ rfl
    simp [show Tryz.prog.cellsOf 3 = 1 by kernel_rfl, show Tryz.prog.cellsOf 2 = 1 by kernel_rfl] at g0 g1
    obtain ⟨a, e0, f0, w0⟩ := DataW.trod_int Tryz.underlying3 g0
    obtain ⟨b, e1, f1, w1⟩ := DataW.trod_int Tryz.underlying2 g1
    simp at e0 e1
    subst e0 e1
    exact ⟨⟨a, b⟩, rfl, bounds_i64 w0, bounds_i64 w1⟩
/-- A row of k cells an element that came in. -/
theorem open_row {α : Type} [Inhabited α] {H : Type} {enc : TypeId × Value → H} {W : World} {fuel : Nat} {cs : List Value} {x : DataW H × List MemPlace} {T e : TypeId} {k : Nat} (hT : Tryz.prog.underlying T = some (.slice e)) (hk : Tryz.prog.cellsOf e = k) (hk0 : 0 < k) (cellsA : α → List Value) (ok : α → Prop)
    (hlen : ∀ a, (cellsA a).length = k)
    (each1 : ∀ (n : Nat) (cs : List Value) (y : DataW H × List MemPlace), DataW.trod enc Tryz.prog W 0 (fun _ => true) true n e cs = some y → cs.length = k → ∃ a, cs = cellsA a ∧ ok a)
    (h : DataW.trod enc Tryz.prog W 0 (fun _ => true) true fuel T cs = some x) :
    ∃ (v : Value) (l : List α), cs = [v] ∧ ReadsR k W v (l.map cellsA) ∧ ∀ a ∈ l, ok a := by
  rcases open_slice hT h with ⟨h0, hx⟩ | ⟨a, len, cap, m, n, D, Pl, hcs, hb, hl, hm, hmm, hx, hel⟩
  · exact ⟨_, [], h0, ReadsR.nil k W, by simp⟩
  · have hm' : m = cap := by simpa using hmm
    subst hm'
    have each : ∀ i, i < len → ∃ q : α, (∀ j y, (cellsA q)[j]? = some y → W.cell? (a.add (i * k + j)) = some y) ∧ ok q := by
      intro i hi
      obtain ⟨cs', h1, h2⟩ := hel i (by omega)
      rw [hk] at h1
      obtain ⟨_, hlen', hcell⟩ := World.cells?_some h1
      obtain ⟨q, rfl, hok⟩ := each1 _ _ _ h2 (by simpa using hlen')
      refine ⟨q, fun j y hy => ?_, hok⟩
      have hj := (List.getElem?_eq_some_iff.1 hy).1
      have := hcell j (by rw [hlen] at hj; exact hj)
      rw [addr_add_add] at this
      rw [this]
      simp [hy]
    obtain ⟨f, hfp⟩ := choose_lt each
    have hll : ((List.range len).map f).length = len := by simp
    refine ⟨_, (List.range len).map f, hcs, ⟨some a, m, by rw [List.length_map, hll], by rw [List.length_map, hll]; omega, hm, by simp, fun hne => ?_⟩, ?_⟩
    · have hpos : 0 < len := by
        rcases Nat.eq_zero_or_pos len with h | h
        · subst h; simp at hne
        · exact h
      obtain ⟨b, o, spot⟩ := a
      have hq0 : ∃ y, (cellsA (f 0))[0]? = some y := ⟨(cellsA (f 0))[0]'(by rw [hlen]; exact hk0), by simp⟩
      obtain ⟨y, hy⟩ := hq0
      have hc := (hfp 0 (by omega)).1 0 y hy
      have hspot : spot = none := by simpa [Addr.add] using World.cell?_spot hc
      subst hspot
      refine ⟨b, o, rfl, fun j r hr i y hy => ?_⟩
      rw [List.getElem?_map, Option.map_eq_some_iff] at hr
      obtain ⟨p, hp, rfl⟩ := hr
      have hj : j < len := by
        have := (List.getElem?_eq_some_iff.1 hp).1
        simpa using this
      have hpf : p = f j := by
        rw [List.getElem?_map] at hp
        simp [hj] at hp
        exact hp.symm
      subst hpf
      have := (hfp j hj).1 i y hy
      rw [add_at] at this
      rw [Nat.add_assoc]
      exact this
    · intro q hq
      obtain ⟨i, hi, rfl⟩ := List.mem_map.1 hq
      exact (hfp i (by simpa using hi)).2
theorem size_list (s : ByteArray) : s.size = s.data.toList.length := by
  rw [Array.length_toList]
  rfl
/-- A program that came in. -/
structure PgIn (W : World) (v : Value) (p : Pg) : Prop where
  form : ∃ a b, v = .agg #[a, b] ∧ IsP W a b p
  names : ∀ s ∈ p.names, s.length ≤ 9223372036854775807
  code : ∀ x ∈ p.code, I64 x.op ∧ I64 x.arg
theorem open_prog {H : Type} {enc : TypeId × Value → H} {W : World} {fuel : Nat} {cs : List Value} {x : DataW H × List MemPlace} (h : DataW.trod enc Tryz.prog W 0 (fun _ => true) true fuel 25 cs = some x) :
    ∃ a b p, cs = [a, b] ∧ PgIn W (.agg #[a, b]) p := by
  obtain ⟨xs, k, hk, hxy, hcl, hxl, hf⟩ := DataW.trod_struct Tryz.underlying25 h
  have hc2 : cs.length = 2 := hcl.trans (show Tryz.prog.cellsOf 25 = 2 by kernel_rfl)
  match xs, hxl, cs, hc2 with
  | [y0, y1], _, [v0, v1], _ =>
    have g0 := hf 0 _ rfl
    have g1 := hf 1 _ rfl
    simp [show Tryz.prog.cellsOf 22 = 1 by kernel_rfl, show Tryz.prog.cellsOf 23 = 1 by kernel_rfl] at g0 g1
    obtain ⟨v, l, e0, r0, o0⟩ := open_row (α := List UInt8) Tryz.underlying22 (show Tryz.prog.cellsOf 9 = 1 by kernel_rfl) (by omega) (fun s => [.string ⟨s.toArray⟩]) (fun s => s.length ≤ 9223372036854775807) (fun _ => rfl) (fun n cs y hy hl => by
      obtain ⟨s, e, -, hs⟩ := DataW.trod_string Tryz.underlying9 hy
      refine ⟨s.data.toList, by rw [e], ?_⟩
      have : s.size = s.data.toList.length := size_list s
      rw [← this]
      exact Nat.le_trans hs (by decide)) g0
    obtain ⟨u, m, e1, r1, o1⟩ := open_row (α := In) Tryz.underlying23 (show Tryz.prog.cellsOf 53 = 2 by kernel_rfl) (by omega) (fun x => [.int .i64 x.op, .int .i64 x.arg]) (fun x => I64 x.op ∧ I64 x.arg) (fun _ => rfl) (fun n cs y hy hl => open_instr hy hl) g1
    simp at e0 e1
    subst e0 e1
    exact ⟨_, _, ⟨l, m⟩, rfl, ⟨⟨_, _, rfl, ⟨r0, r1⟩⟩, o0, o1⟩⟩
end Go.Proofs.YtibapmjgpnldgaaGreatDoor
/-
  CodeLines: the walk.
-/
namespace Go.Proofs.YtibapmjgpnldgaaGreatDoor
open Go.RowKit
set_option maxRecDepth 100000
set_option linter.unusedVariables false
theorem itoa_len21 {z : Int} (h : I64 z) : (Go.Lib.itoa z).length ≤ 21 := by
  unfold I64 at h
  unfold Go.Lib.itoa
  split
  · have := dec_len z.natAbs 20 (by omega) (by omega)
    simp
    omega
  · have := dec_len z.toNat 20 (by omega) (by omega)
    omega
theorem ilines_len32 {xs : List In} {nn nc : Nat} (h : ∀ x ∈ xs, okI nn nc x = true ∧ I64 x.arg) : ∀ l ∈ xs.map iline, l.length ≤ 32 := fun l hl => by
  obtain ⟨x, hx, rfl⟩ := List.mem_map.1 hl
  obtain ⟨i, s, k, e1, e2, -⟩ := okI_some (h x hx).1
  rw [iline_at e1 e2]
  have h1 := (words_len _ (List.mem_of_getElem? e2)).1
  have h2 := itoa_len21 (h x hx).2
  dsimp only at h1
  unfold wline
  split
  · omega
  · simp; omega
theorem printP_len {p : Pg} (h : formedP p = true) (ho : OkP p) : (printP p).length ≤ 10000 := by
  obtain ⟨h1, h2, h3, h4⟩ := formed_parts h
  unfold printP plines
  rw [joinL_append, List.length_append]
  have a := join_len (nlines_len h3)
  have b := join_len (ilines_len32 (xs := p.code) (nn := p.names.length) (nc := p.code.length) (fun x hx => ⟨h4 x hx, ho x hx⟩))
  simp only [List.length_map] at a b
  omega
/-- A line feed behind a line that is none. -/
theorem line_alone {line : List UInt8} (hl : 10 ∉ line) (n : Nat) (h : parseP (line ++ [10]) = .inl n) (h1 : n = 1) : line1 line = none := by
  subst h1
  have e : linesOf (line ++ [10]) = [line] := by
    unfold linesOf
    rw [split_line [] [] hl]
    rfl
  unfold parseP at h
  rw [e, parseF] at h
  cases e1 : line1 line with
  | none => rfl
  | some x =>
    rw [e1] at h
    simp only [parseF] at h
    split at h <;> simp at h
section
variable {w : World}
end
end Go.Proofs.YtibapmjgpnldgaaGreatDoor
/-
  One start that fits: the package's variables as their initialisers lay them.
-/
namespace Go.Proofs.YtibapmjgpnldgaaGreatDoor
open Go.RowKit
set_option maxRecDepth 100000
def cellsD1 : DataW Unit → List Value
  | .lit (.int k n) => [.int k n]
  | .lit (.string s) => [.string ⟨s.toArray⟩]
  | _ => []
def cellsD2 : DataW Unit → List Value
  | .agg ps => ps.flatMap cellsD1
  | _ => []
def cellsD3 : DataW Unit → List Value
  | .agg ps => ps.flatMap cellsD2
  | _ => []
def textD : DataW Unit → Value
  | .iface _ (.ptr (.agg [.lit (.string s)])) => .string ⟨s.toArray⟩
  | _ => .string ⟨#[]⟩
/-- So many blocks has the settled world. -/
noncomputable def low : Nat := (World.holding Tryz.prog default ⟨#[], #[], []⟩).heap.size
def reCells (cs : List Value) : Obj → Obj
  | .cells _ t frozen => .cells cs.toArray t frozen
  | o => o
/-- The settled world with two blocks more, the errors' texts; the variables hold what their initialisers lay. -/
noncomputable def laidWorld (os : Os) : World :=
  let w0 := World.holding Tryz.prog os ⟨#[.cells #[textD Rows.laid_strconv_ErrSyntax] 159, .cells #[textD Rows.laid_strconv_ErrRange] 159], #[], []⟩
  { w0 with heap := (((((w0.heap.modify 0 (reCells (cellsD3 Rows.laid_reeve_code_operations))).modify 2 (reCells (cellsD2 Rows.laid_internal_strconv_uint64pow10))).modify 5 (reCells (cellsD2 Rows.laid_math_bits_deBruijn32tab))).modify 6 (reCells (cellsD2 Rows.laid_math_bits_deBruijn64tab))).modify 3 (reCells [.iface 157 (.pointer (some ⟨low, 0, none⟩))])).modify 4 (reCells [.iface 157 (.pointer (some ⟨low + 1, 0, none⟩))]) }
theorem own : ownKnob Tryz.prog.godebug = none := by kernel_rfl
theorem laidOut : laidOutB Tryz.prog = true := by kernel_rfl
theorem laid_met (os : Os) (args : Array Value) : laidMet Tryz.prog Rows.codeTurnedRow.laid ((laidWorld os).forCall (fun _ _ => 0) ⟨#[], args, []⟩).memory :=
  laidMet_of_run' 8 (by kernel_rfl) (by kernel_rfl)
end Go.Proofs.YtibapmjgpnldgaaGreatDoor
