/-
  What the program's package-level variable holds: the table of operations.
-/
import Derived.Test.YtpodoiichpnpjaaDoorRows
import Derived.Test.YtpodoiichpnpjaaDoorZz
import Derived.Test.YtpodoiichpnpjaaDoorRs
import Derived.WalkSmall
import Derived.Lib.LaidTab
import Derived.Stop.LaidErr
namespace Go.Proofs.YtpodoiichpnpjaaDoor
open Go.RowKit
set_option maxRecDepth 100000
theorem gOps : Tryd.prog.globalNamed "reeve/code.operations" = some 0 := by kernel_rfl
/-- What the variable holds. -/
structure Glob (w : World) : Prop where
  ops : ∀ (i : Nat) (s : List UInt8) (k : Nat), words[i]? = some (s, k) → w.cell? ⟨0, 2 * i, none⟩ = some (.string ⟨s.toArray⟩) ∧ w.cell? ⟨0, 2 * i + 1, none⟩ = some (.int .i64 k)
theorem cells_of_ops {w : World} {fuel : Nat} {cs : List Value} {p : List MemPlace} {zs : List (List UInt8 × Nat)}
    (h : DataW.trod (fun _ => ()) Tryd.prog w 0 (fun _ => true) false fuel 103 cs = some (.agg (zs.map fun z => .agg [.lit (.string z.1), .lit (.int .i64 z.2)]), p)) :
    ∀ (i : Nat) (s : List UInt8) (k : Nat), zs[i]? = some (s, k) → cs[2 * i]? = some (.string ⟨s.toArray⟩) ∧ cs[2 * i + 1]? = some (.int .i64 k) := by
  have hce : Tryd.prog.cellsOf 102 = 2 := by kernel_rfl
  have hct : Tryd.prog.cellsOf 103 = 48 := by kernel_rfl
  have hc9 : Tryd.prog.cellsOf 9 = 1 := by kernel_rfl
  have hc3 : Tryd.prog.cellsOf 3 = 1 := by kernel_rfl
  cases fuel with
  | zero => simp [DataW.trod] at h
  | succ fuel =>
    simp only [DataW.trod, Tryd.underlying103, hce, hct] at h
    split at h
    · rename_i hl
      obtain ⟨xs, hm, hx⟩ := Option.map_eq_some_iff.1 h
      have hxs : xs.map (·.1) = zs.map fun z => (DataW.agg [.lit (.string z.1), .lit (.int .i64 z.2)] : DataW Unit) := by
        have := congrArg Prod.fst hx
        simpa using this
      have hxl : xs.length = 24 := by simpa using Lib.mapM_length hm
      intro i s k hz
      have hi : i < 24 := by
        have := congrArg List.length hxs
        simp at this
        have := (List.getElem?_eq_some_iff.1 hz).1
        omega
      obtain ⟨b, hb, hf⟩ := Lib.mapM_at hm i i (by simp [hi])
      obtain ⟨ys, n, hn, rfl, hlen, hys, hall⟩ := DataW.trod_struct Tryd.underlying102 hf
      have h1 : (xs.map (·.1))[i]? = some (DataW.agg (ys.map (·.1))) := by simp [hb]
      rw [hxs] at h1
      simp only [List.getElem?_map, hz, Option.map_some, Option.some.injEq, DataW.agg.injEq] at h1
      have f0 := hall 0 ⟨"word", 9, 0, false, "", "reeve/code", 0⟩ rfl
      have f1 := hall 1 ⟨"takes", 3, 1, false, "", "reeve/code", 16⟩ rfl
      have hy2 : ys.length = 2 := hys
      obtain ⟨y0, y1, rfl⟩ : ∃ y0 y1, ys = [y0, y1] := by
        match ys, hy2 with
        | [a, b], _ => exact ⟨a, b, rfl⟩
      rw [hc9] at f0
      rw [hc3] at f1
      obtain ⟨s0, e0, r0, -⟩ := DataW.trod_string Tryd.underlying9 f0
      obtain ⟨k0, e1, r1, -⟩ := DataW.trod_int Tryd.underlying3 f1
      subst r0 r1
      simp only [List.map_cons, List.map_nil, List.cons.injEq, DataW.lit.injEq, Lit.string.injEq, Lit.int.injEq, true_and, and_true] at h1
      obtain ⟨q0, q1⟩ := h1
      subst q0
      constructor
      · have := congrArg (·[0]?) e0
        simp [List.getElem?_drop] at this
        rw [Nat.mul_comm, this]
      · have := congrArg (·[0]?) e1
        simp [List.getElem?_drop] at this
        rw [Nat.mul_comm, this, q1]
    · cases h
theorem glob_of {W : World} (h0 : laidMet Tryd.prog [("reeve/code.operations", Rows.laid_reeve_code_operations)] W) : Glob W := by
  obtain ⟨ps, ⟨g, t, cs, fuel, p, q, hg, ht, hv, hd, _, _⟩, _⟩ := h0
  obtain rfl := Option.some.inj (gOps.symm.trans hg)
  obtain rfl := Option.some.inj ((show (Tryd.prog.globals[0]?).map (·.type) = some 103 by kernel_rfl).symm.trans ht)
  have := cells_of_ops (zs := words) hd
  refine ⟨fun i s k hz => ?_⟩
  obtain ⟨c1, c2⟩ := this i s k hz
  rw [Array.getElem?_toList] at c1 c2
  exact ⟨(World.var?_cell gOps hv (2 * i)).trans c1, (World.var?_cell gOps hv (2 * i + 1)).trans c2⟩
/-- Where no old block is turned, the variable holds what it held. -/
theorem Glob.kept {w w' : World} (h : Glob w) (k : Kept [] w w') : Glob w' := ⟨fun i s n hz => ⟨k.cell_eq (h.ops i s n hz).1, k.cell_eq (h.ops i s n hz).2⟩⟩
end Go.Proofs.YtpodoiichpnpjaaDoor
