/-
  What the program's package-level variables hold: the table of operations, the powers of ten, two errors and a number.
-/
import Derived.Test.YtibapmjgpnldgaaDoorRows
import Derived.Test.YtibapmjgpnldgaaDoorShelf
import Derived.Test.YtibapmjgpnldgaaDoorZz
import Derived.Test.YtibapmjgpnldgaaDoorRs
import Derived.WalkSmall
import Derived.Lib.LaidTab
import Derived.Stop.LaidErr
import Derived.Shelf.Vars
namespace Go.Proofs.YtibapmjgpnldgaaDoor
open Go.RowKit
set_option maxRecDepth 100000
theorem gOps : Tryd.prog.globalNamed "reeve/code.operations" = some 0 := by kernel_rfl
theorem gPow : Tryd.prog.globalNamed "internal/strconv.uint64pow10" = some 1 := by kernel_rfl
theorem gMax : Tryd.prog.globalNamed "internal/bytealg.MaxLen" = some 2 := by kernel_rfl
theorem gSyn : Tryd.prog.globalNamed "strconv.ErrSyntax" = some 5 := by kernel_rfl
theorem gRng : Tryd.prog.globalNamed "strconv.ErrRange" = some 6 := by kernel_rfl
/-- What the variables hold. -/
structure Glob (w : World) : Prop where
  ops : ∀ (i : Nat) (s : List UInt8) (k : Nat), words[i]? = some (s, k) → w.cell? ⟨0, 2 * i, none⟩ = some (.string ⟨s.toArray⟩) ∧ w.cell? ⟨0, 2 * i + 1, none⟩ = some (.int .i64 k)
  tab : Lib.TabIs Tryd.prog w "internal/strconv.uint64pow10" .u64 Lib.pow10Tab
  syn : ∃ tp p, w.cell? ⟨5, 0, none⟩ = some (.iface tp p)
  rng : ∃ tp p, w.cell? ⟨6, 0, none⟩ = some (.iface tp p)
  mx : ∃ m, w.cell? ⟨2, 0, none⟩ = some (.int .i64 m)
theorem laid_tail {P : Program} {x : String × DataW Unit} {r : List (String × DataW Unit)} {W : World} (h : laidMet P (x :: r) W) : laidMet P r W := by
  obtain ⟨n, d⟩ := x
  obtain ⟨ps, ⟨g, t, cs, fuel, p, q, _, _, _, _, hr, rfl⟩, hn, hc⟩ := h
  exact ⟨q, hr, (List.nodup_append.1 hn).2.1, fun b off hb => hc b off (List.mem_append_right _ hb)⟩
theorem cells_of_ops {w : World} {fuel : Nat} {cs : List Value} {p : List MemPlace} {zs : List (List UInt8 × Nat)}
    (h : DataW.trod (fun _ => ()) Tryd.prog w 0 (fun _ => true) false fuel 108 cs = some (.agg (zs.map fun z => .agg [.lit (.string z.1), .lit (.int .i64 z.2)]), p)) :
    ∀ (i : Nat) (s : List UInt8) (k : Nat), zs[i]? = some (s, k) → cs[2 * i]? = some (.string ⟨s.toArray⟩) ∧ cs[2 * i + 1]? = some (.int .i64 k) := by
  have hce : Tryd.prog.cellsOf 107 = 2 := by kernel_rfl
  have hct : Tryd.prog.cellsOf 108 = 48 := by kernel_rfl
  have hc9 : Tryd.prog.cellsOf 9 = 1 := by kernel_rfl
  have hc3 : Tryd.prog.cellsOf 3 = 1 := by kernel_rfl
  cases fuel with
  | zero => simp [DataW.trod] at h
  | succ fuel =>
    simp only [DataW.trod, Tryd.underlying108, hce, hct] at h
    split at h
    · rename_i hl
      obtain ⟨xs, hm, hx⟩ := Option.map_eq_some_iff.1 h
      have hxs : xs.map (·.1) = zs.map fun z => (DataW.agg [.lit (.string z.1), .lit (.int .i64 z.2)] : DataW Unit) := by
        have := congrArg Prod.fst hx
        simpa using this
      have hxl : xs.length = 24 := by simpa using Lib.mapM_length hm
      intro i s k hz
      have hi : i < 24 := by
        have := congrArg List.length hxs
        simp at this
        have := (List.getElem?_eq_some_iff.1 hz).1
        omega
      obtain ⟨b, hb, hf⟩ := Lib.mapM_at hm i i (by simp [hi])
      obtain ⟨ys, n, hn, rfl, hlen, hys, hall⟩ := DataW.trod_struct Tryd.underlying107 hf
      have h1 : (xs.map (·.1))[i]? = some (DataW.agg (ys.map (·.1))) := by simp [hb]
      rw [hxs] at h1
      simp only [List.getElem?_map, hz, Option.map_some, Option.some.injEq, DataW.agg.injEq] at h1
      have f0 := hall 0 ⟨"word", 9, 0, false, "", "reeve/code", 0⟩ rfl
      have f1 := hall 1 ⟨"takes", 3, 1, false, "", "reeve/code", 16⟩ rfl
      have hy2 : ys.length = 2 := hys
      obtain ⟨y0, y1, rfl⟩ : ∃ y0 y1, ys = [y0, y1] := by
        match ys, hy2 with
        | [a, b], _ => exact ⟨a, b, rfl⟩
      rw [hc9] at f0
      rw [hc3] at f1
      obtain ⟨s0, e0, r0, -⟩ := DataW.trod_string Tryd.underlying9 f0
      obtain ⟨k0, e1, r1, -⟩ := DataW.trod_int Tryd.underlying3 f1
      subst r0 r1
      simp only [List.map_cons, List.map_nil, List.cons.injEq, DataW.lit.injEq, Lit.string.injEq, Lit.int.injEq, true_and, and_true] at h1
      obtain ⟨q0, q1⟩ := h1
      subst q0
      constructor
      · have := congrArg (·[0]?) e0
        simp [List.getElem?_drop] at this
        rw [Nat.mul_comm, this]
      · have := congrArg (·[0]?) e1
        simp [List.getElem?_drop] at this
        rw [Nat.mul_comm, this, q1]
    · cases h
theorem row162 (u : TypeId) (h : Tryd.prog.typeName? 3 u = some "*errors.errorString") : u = 162 :=
  typeName_ptr_named (nm := "errors.errorString") (by kernel_rfl) (by kernel_rfl) (by decide) u h
theorem glob_of {W : World} (h : laidMetH Tryd.prog Rows.codePrintsRow.laid W) (hs : W.ShapedOpen Tryd.prog) : Glob W := by
  have h0 : laidMet Tryd.prog Rows.codePrintsRow.laid W := by
    have e : (Rows.codePrintsRow.laid.filter fun x => x.2.handleName?.isSome) = [] := by kernel_rfl
    unfold laidMetH at h
    rw [e] at h
    exact h
  clear h
  have h1 := laid_tail (laid_tail h0)
  have tab : Lib.TabIs Tryd.prog W "internal/strconv.uint64pow10" .u64 Lib.pow10Tab := Lib.tabIs_of_head gPow (by kernel_rfl) Tryd.underlying141 Tryd.underlying85 (by kernel_rfl) (by kernel_rfl) h1
  have h2 := laid_tail h1
  have h3 := laid_tail h2
  have h4 := laid_tail h3
  refine ⟨?_, tab, ?_, ?_, ?_⟩
  · obtain ⟨ps, ⟨g, t, cs, fuel, p, q, hg, ht, hv, hd, _, _⟩, _⟩ := h4
    obtain rfl := Option.some.inj (gOps.symm.trans hg)
    obtain rfl := Option.some.inj ((show (Tryd.prog.globals[0]?).map (·.type) = some 108 by kernel_rfl).symm.trans ht)
    have := cells_of_ops (zs := words) hd
    intro i s k hz
    obtain ⟨c1, c2⟩ := this i s k hz
    rw [Array.getElem?_toList] at c1 c2
    exact ⟨(World.var?_cell gOps hv (2 * i)).trans c1, (World.var?_cell gOps hv (2 * i + 1)).trans c2⟩
  · obtain ⟨a, s, hv, -⟩ := laid_sentinel h3 gSyn (by kernel_rfl) Tryd.underlying101 row162 Tryd.underlying162 Tryd.underlying164 rfl rfl Tryd.underlying9 (by kernel_rfl) (by kernel_rfl)
    exact ⟨_, _, (World.var?_cell gSyn hv 0).trans rfl⟩
  · obtain ⟨a, s, hv, -⟩ := laid_sentinel h2 gRng (by kernel_rfl) Tryd.underlying101 row162 Tryd.underlying162 Tryd.underlying164 rfl rfl Tryd.underlying9 (by kernel_rfl) (by kernel_rfl)
    exact ⟨_, _, (World.var?_cell gRng hv 0).trans rfl⟩
  · exact Go.Proofs.cell_of_shapedOpen_int (P := Tryd.prog) (g := 2) (t := 3) (zero := #[.int .i64 0]) hs (of_decide_eq_true (by kernel_rfl)) (by kernel_rfl) rfl (by kernel_rfl) (by kernel_rfl) Tryd.underlying3
/-- Where no old block is turned, the variables hold what they held. -/
theorem Glob.kept {w w' : World} (h : Glob w) (k : Kept [] w w') : Glob w' := by
  have K : ∀ (a : Addr) (v : Value), w.cell? a = some v → w'.cell? a = some v := fun a v hv => by
    exact k.cell_eq hv
  refine ⟨fun i s n hz => ⟨K _ _ (h.ops i s n hz).1, K _ _ (h.ops i s n hz).2⟩, ?_, ?_, ?_, ?_⟩
  · have B : Below w.heap.size w w' := ⟨k.os, k.tape, k.output, k.size, fun b hb => k.block b hb (by simp)⟩
    exact var?_below B gPow (Lib.lt_of_cell (h.tab.cell gPow 0 (by decide))) h.tab
  · obtain ⟨t, p, e⟩ := h.syn; exact ⟨t, p, K _ _ e⟩
  · obtain ⟨t, p, e⟩ := h.rng; exact ⟨t, p, K _ _ e⟩
  · obtain ⟨m, e⟩ := h.mx; exact ⟨m, K _ _ e⟩
end Go.Proofs.YtibapmjgpnldgaaDoor
