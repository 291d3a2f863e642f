import Derived.Test.YtibapmjgpnldgaaGreatDoorRows
import Derived.WalkSmall
import Derived.Lib.LaidTab
import Derived.Stop.LaidErr
import Derived.Shelf.Vars
import Derived.Deep.QuietTactic
import Derived.BigQuiet
import Derived.Test.YtibapmjgpnldgaaGreatDoorQ13
import Derived.Test.YtibapmjgpnldgaaGreatDoorQ14
import Derived.Test.YtibapmjgpnldgaaGreatDoorQ15
/-
  What the program's package-level variables hold: the table of operations, the powers of ten, two errors and a number.
-/
namespace Go.Proofs.YtibapmjgpnldgaaGreatDoor
open Go.RowKit
set_option maxRecDepth 100000
theorem gOps : Tryz.prog.globalNamed "reeve/code.operations" = some 0 := by kernel_rfl
theorem gPow : Tryz.prog.globalNamed "internal/strconv.uint64pow10" = some 2 := by kernel_rfl
theorem gMax : Tryz.prog.globalNamed "internal/bytealg.MaxLen" = some 1 := by kernel_rfl
theorem gSyn : Tryz.prog.globalNamed "strconv.ErrSyntax" = some 3 := by kernel_rfl
theorem gRng : Tryz.prog.globalNamed "strconv.ErrRange" = some 4 := by kernel_rfl
/-- What the variables hold. -/
structure Glob (w : World) : Prop where
  ops : ∀ (i : Nat) (s : List UInt8) (k : Nat), words[i]? = some (s, k) → w.cell? ⟨0, 2 * i, none⟩ = some (.string ⟨s.toArray⟩) ∧ w.cell? ⟨0, 2 * i + 1, none⟩ = some (.int .i64 k)
  tab : Lib.TabIs Tryz.prog w "internal/strconv.uint64pow10" .u64 Lib.pow10Tab
  syn : ∃ tp p, w.cell? ⟨3, 0, none⟩ = some (.iface tp p)
  rng : ∃ tp p, w.cell? ⟨4, 0, none⟩ = some (.iface tp p)
  mx : ∃ m, w.cell? ⟨1, 0, none⟩ = some (.int .i64 m)
theorem laid_tail {P : Program} {x : String × DataW Unit} {r : List (String × DataW Unit)} {W : World} (h : laidMet P (x :: r) W) : laidMet P r W := by
  obtain ⟨n, d⟩ := x
  obtain ⟨ps, ⟨g, t, cs, fuel, p, q, _, _, _, _, hr, rfl⟩, hn, hc⟩ := h
  exact ⟨q, hr, (List.nodup_append.1 hn).2.1, fun b off hb => hc b off (List.mem_append_right _ hb)⟩
theorem cells_of_ops {w : World} {fuel : Nat} {cs : List Value} {p : List MemPlace} {zs : List (List UInt8 × Nat)}
    (h : DataW.trod (fun _ => ()) Tryz.prog w 0 (fun _ => true) false fuel 84 cs = some (.agg (zs.map fun z => .agg [.lit (.string z.1), .lit (.int .i64 z.2)]), p)) :
    ∀ (i : Nat) (s : List UInt8) (k : Nat), zs[i]? = some (s, k) → cs[2 * i]? = some (.string ⟨s.toArray⟩) ∧ cs[2 * i + 1]? = some (.int .i64 k) := by
  have hce : Tryz.prog.cellsOf 83 = 2 := by kernel_rfl
  have hct : Tryz.prog.cellsOf 84 = 48 := by kernel_rfl
  have hc9 : Tryz.prog.cellsOf 9 = 1 := by kernel_rfl
  have hc3 : Tryz.prog.cellsOf 3 = 1 := by kernel_rfl
  cases fuel with
  | zero => simp [DataW.trod] at h
  | succ fuel =>
    simp only [DataW.trod, Tryz.underlying84, hce, hct] at h
    split at h
    · rename_i hl
      obtain ⟨xs, hm, hx⟩ := Option.map_eq_some_iff.1 h
      have hxs : xs.map (·.1) = zs.map fun z => (DataW.agg [.lit (.string z.1), .lit (.int .i64 z.2)] : DataW Unit) := by
        have := congrArg Prod.fst hx
        simpa using this
      have hxl : xs.length = 24 := by simpa using Lib.mapM_length hm
      intro i s k hz
      have hi : i < 24 := by
        have := congrArg List.length hxs
        simp at this
        have := (List.getElem?_eq_some_iff.1 hz).1
        omega
      obtain ⟨b, hb, hf⟩ := Lib.mapM_at hm i i (by simp [hi])
      obtain ⟨ys, n, hn, rfl, hlen, hys, hall⟩ := DataW.trod_struct Tryz.underlying83 hf
      have h1 : (xs.map (·.1))[i]? = some (DataW.agg (ys.map (·.1))) := by simp [hb]
      rw [hxs] at h1
      simp only [List.getElem?_map, hz, Option.map_some, Option.some.injEq, DataW.agg.injEq] at h1
      have f0 := hall 0 ⟨"word", 9, 0, false, "", "reeve/code", 0⟩ rfl
      have f1 := hall 1 ⟨"takes", 3, 1, false, "", "reeve/code", 16⟩ rfl
      have hy2 : ys.length = 2 := hys
      obtain ⟨y0, y1, rfl⟩ : ∃ y0 y1, ys = [y0, y1] := by
        match ys, hy2 with
        | [a, b], _ => exact ⟨a, b, rfl⟩
      rw [hc9] at f0
      rw [hc3] at f1
      obtain ⟨s0, e0, r0, -⟩ := DataW.trod_string Tryz.underlying9 f0
      obtain ⟨k0, e1, r1, -⟩ := DataW.trod_int Tryz.underlying3 f1
      subst r0 r1
      simp only [List.map_cons, List.map_nil, List.cons.injEq, DataW.lit.injEq, Lit.string.injEq, Lit.int.injEq, true_and, and_true] at h1
      obtain ⟨q0, q1⟩ := h1
      subst q0
      constructor
      · have := congrArg (·[0]?) e0
        simp [List.getElem?_drop] at this
        rw [Nat.mul_comm, this]
      · have := congrArg (·[0]?) e1
        simp [List.getElem?_drop] at this
        rw [Nat.mul_comm, this, q1]
    · cases h
theorem row162 (u : TypeId) (h : Tryz.prog.typeName? 3 u = some "*errors.errorString") : u = 157 :=
  typeName_ptr_named (nm := "errors.errorString") (by kernel_rfl) (by kernel_rfl) (by decide) u h
theorem glob_of {W : World} (h : laidMetH Tryz.prog Rows.codeTurnedRow.laid W) (hs : W.ShapedOpen Tryz.prog) : Glob W := by
  have h0 : laidMet Tryz.prog Rows.codeTurnedRow.laid W := by
    have e : (Rows.codeTurnedRow.laid.filter fun x => x.2.handleName?.isSome) = [] := by kernel_rfl
    unfold laidMetH at h
    rw [e] at h
    exact h
  clear h
  have h1 := laid_tail (laid_tail h0)
  have tab : Lib.TabIs Tryz.prog W "internal/strconv.uint64pow10" .u64 Lib.pow10Tab := Lib.tabIs_of_head gPow (by kernel_rfl) Tryz.underlying136 Tryz.underlying57 (by kernel_rfl) (by kernel_rfl) h1
  have h2 := laid_tail h1
  have h3 := laid_tail h2
  have h4 := laid_tail h3
  refine ⟨?_, tab, ?_, ?_, ?_⟩
  · obtain ⟨ps, ⟨g, t, cs, fuel, p, q, hg, ht, hv, hd, _, _⟩, _⟩ := h4
    obtain rfl := Option.some.inj (gOps.symm.trans hg)
    obtain rfl := Option.some.inj ((show (Tryz.prog.globals[0]?).map (·.type) = some 84 by kernel_rfl).symm.trans ht)
    have := cells_of_ops (zs := words) hd
    intro i s k hz
    obtain ⟨c1, c2⟩ := this i s k hz
    rw [Array.getElem?_toList] at c1 c2
    exact ⟨(World.var?_cell gOps hv (2 * i)).trans c1, (World.var?_cell gOps hv (2 * i + 1)).trans c2⟩
  · obtain ⟨a, s, hv, -⟩ := laid_sentinel h3 gSyn (by kernel_rfl) Tryz.underlying78 row162 Tryz.underlying157 Tryz.underlying159 rfl rfl Tryz.underlying9 (by kernel_rfl) (by kernel_rfl)
    exact ⟨_, _, (World.var?_cell gSyn hv 0).trans rfl⟩
  · obtain ⟨a, s, hv, -⟩ := laid_sentinel h2 gRng (by kernel_rfl) Tryz.underlying78 row162 Tryz.underlying157 Tryz.underlying159 rfl rfl Tryz.underlying9 (by kernel_rfl) (by kernel_rfl)
    exact ⟨_, _, (World.var?_cell gRng hv 0).trans rfl⟩
  · exact Go.Proofs.cell_of_shapedOpen_int (P := Tryz.prog) (g := 1) (t := 3) (zero := #[.int .i64 0]) hs (of_decide_eq_true (by kernel_rfl)) (by kernel_rfl) rfl (by kernel_rfl) (by kernel_rfl) Tryz.underlying3
/-- Where no old block is turned, the variables hold what they held. -/
theorem Glob.kept {w w' : World} (h : Glob w) (k : Kept [] w w') : Glob w' := by
  have K : ∀ (a : Addr) (v : Value), w.cell? a = some v → w'.cell? a = some v := fun a v hv => by
    exact k.cell_eq hv
  refine ⟨fun i s n hz => ⟨K _ _ (h.ops i s n hz).1, K _ _ (h.ops i s n hz).2⟩, ?_, ?_, ?_, ?_⟩
  · have B : Below w.heap.size w w' := ⟨k.os, k.tape, k.output, k.size, fun b hb => k.block b hb (by simp)⟩
    exact var?_below B gPow (Lib.lt_of_cell (h.tab.cell gPow 0 (by decide))) h.tab
  · obtain ⟨t, p, e⟩ := h.syn; exact ⟨t, p, K _ _ e⟩
  · obtain ⟨t, p, e⟩ := h.rng; exact ⟨t, p, K _ _ e⟩
  · obtain ⟨m, e⟩ := h.mx; exact ⟨m, K _ _ e⟩
end Go.Proofs.YtibapmjgpnldgaaGreatDoor
/-
  Programs in memory: rows of names and rows of instructions.
-/
namespace Go.Proofs.YtibapmjgpnldgaaGreatDoor
open Go.RowKit
set_option maxRecDepth 100000
abbrev Sv (s : List UInt8) : Value := .string ⟨s.toArray⟩
def rowN (N : List (List UInt8)) : List (List Value) := N.map fun s => [.string ⟨s.toArray⟩]
def rowI (C : List In) : List (List Value) := C.map fun x => [.int .i64 x.op, .int .i64 x.arg]
theorem rowN_length (N : List (List UInt8)) : (rowN N).length = N.length := by simp [rowN]
theorem rowI_length (C : List In) : (rowI C).length = C.length := by simp [rowI]
theorem wideN (N : List (List UInt8)) : Wide 1 (rowN N) := fun r hr => by
  obtain ⟨s, -, rfl⟩ := List.mem_map.1 hr
  exact ⟨rfl, fun u hu => by simp at hu; subst hu; rfl⟩
theorem wideI (C : List In) : Wide 2 (rowI C) := fun r hr => by
  obtain ⟨s, -, rfl⟩ := List.mem_map.1 hr
  exact ⟨rfl, fun u hu => by simp at hu; rcases hu with rfl | rfl <;> rfl⟩
/-- A program in memory: its names' row and its instructions'. -/
structure IsP (w : World) (v u : Value) (p : Pg) : Prop where
  names : ReadsR 1 w v (rowN p.names)
  code : ReadsR 2 w u (rowI p.code)
theorem ReadsR.keep {k : Nat} {w w' : World} {v : Value} {rs : List (List Value)} (h : ReadsR k w v rs) (kk : Kept [] w w') : ReadsR k w' v rs := h.kept kk (by simp)
theorem IsP.keep {w w' : World} {v u : Value} {p : Pg} (h : IsP w v u p) (k : Kept [] w w') : IsP w' v u p := ⟨h.names.keep k, h.code.keep k⟩
theorem IsP.form {w : World} {v u : Value} {p : Pg} (h : IsP w v u p) : ∃ a c b d, v = .slice a p.names.length c ∧ u = .slice b p.code.length d ∧ p.names.length ≤ 9223372036854775807 ∧ p.code.length ≤ 9223372036854775807 := by
  obtain ⟨a, c, e, h1, h2⟩ := h.names.form
  obtain ⟨b, d, e', h1', h2'⟩ := h.code.form
  rw [rowN_length] at e h1
  rw [rowI_length] at e' h1'
  exact ⟨a, c, b, d, e, e', by omega, by omega⟩
/-- The cell of a name. -/
theorem names_at {w : World} {a : Option Addr} {n c : Nat} {N : List (List UInt8)} (h : ReadsR 1 w (.slice a n c) (rowN N)) {j : Nat} (hj : j < N.length) : ∃ b o, a = some ⟨b, o, none⟩ ∧ w.cell? ⟨b, o + j, none⟩ = some (.string ⟨N[j].toArray⟩) := by
  obtain ⟨b, o, c', e, hc⟩ := h.at j [.string ⟨N[j].toArray⟩] (by simp [rowN, hj])
  simp only [Value.slice.injEq] at e
  refine ⟨b, o, e.1, ?_⟩
  have := hc 0 _ rfl
  simpa using this
/-- The cells of an instruction. -/
theorem code_at {w : World} {a : Option Addr} {n c : Nat} {C : List In} (h : ReadsR 2 w (.slice a n c) (rowI C)) {j : Nat} (hj : j < C.length) : ∃ b o, a = some ⟨b, o, none⟩ ∧ w.cell? ⟨b, o + j * 2, none⟩ = some (.int .i64 C[j].op) ∧ w.cell? ⟨b, o + j * 2 + 1, none⟩ = some (.int .i64 C[j].arg) := by
  obtain ⟨b, o, c', e, hc⟩ := h.at j [.int .i64 C[j].op, .int .i64 C[j].arg] (by simp [rowI, hj])
  simp only [Value.slice.injEq] at e
  exact ⟨b, o, e.1, hc 0 _ rfl, hc 1 _ rfl⟩
/-- Where an operation's row lies. -/
theorem op_at {w : World} (h : Glob w) {i : Nat} (hi : i < 24) : ∃ s k, words[i]? = some (s, k) ∧ k ≤ 5 ∧ w.cell? ⟨0, 2 * i, none⟩ = some (.string ⟨s.toArray⟩) ∧ w.cell? ⟨0, 2 * i + 1, none⟩ = some (.int .i64 (k : Int)) := by
  have hl : i < words.length := hi
  have e : words[i]? = some (words[i].1, words[i].2) := by rw [List.getElem?_eq_getElem hl]
  have hk : ∀ x ∈ words, x.2 ≤ 5 := by decide
  exact ⟨_, _, e, hk _ (List.getElem_mem hl), h.ops i _ _ e⟩
/-- How many integers may stand there. -/
def choiceN (nn nc k : Nat) : Int := if k = 2 then 8 else if k = 3 then 4 else if k = 4 then (nc : Int) + 1 else if k = 5 then (nn : Int) else 1
theorem choice_most {nn nc k : Nat} (hk : k ≤ 5) (h1 : k ≠ 1) : choiceN nn nc k = mostI nn nc k + 1 := by
  unfold choiceN mostI
  match k, hk, h1 with
  | 0, _, _ => rfl
  | 2, _, _ => rfl
  | 3, _, _ => rfl
  | 4, _, _ => rfl
  | 5, _, _ => simp
theorem okI_at {nn nc i k : Nat} {s : List UInt8} {x : In} (ho : x.op = (i : Int)) (h : words[i]? = some (s, k)) (hk : k ≤ 5) : okI nn nc x = (decide (k = 1) || (decide (0 ≤ x.arg) && decide (x.arg < choiceN nn nc k))) := by
  unfold okI
  rw [ho, Int.toNat_natCast, h]
  dsimp only
  rw [show decide (0 ≤ (i : Int)) = true by simp, Bool.true_and]
  by_cases h1 : k = 1
  · subst h1; rfl
  · rw [choice_most hk h1]
    congr 2
    simp
    omega
theorem okI_out {nn nc : Nat} {x : In} (h : x.op < 0 ∨ 24 ≤ x.op) : okI nn nc x = false := by
  unfold okI
  rcases h with h | h
  · split
    · simp; omega
    · rfl
  · rw [List.getElem?_eq_none (by rw [words_length]; omega)]
end Go.Proofs.YtibapmjgpnldgaaGreatDoor
/-
  Drawn regions whose calls only make memory: the quiet walk over the worlds that kept all of another.
-/
namespace Go.Proofs.YtibapmjgpnldgaaGreatDoor
open Go.RowKit
set_option maxRecDepth 100000
/-- A world that kept all of another. -/
structure KW (a : World) where
  w : World
  k : Kept [] a w
instance (a : World) : Nonempty (KW a) := ⟨⟨a, Kept.refl [] a⟩⟩
theorem calls_kw {P : Program} {f : FuncId} {args : Array Value} {v : Value} {a : World} {z : KW a} (h : Calls P f args z.w fun e w' => e = .returned v ∧ Kept [] z.w w') : Calls P f args z.w fun e w'' => e = .returned v ∧ ∃ z' : KW a, w'' = z'.w :=
  h.mono fun e w'' h => ⟨h.1, ⟨w'', z.k.trans h.2 (by simp)⟩, rfl⟩
theorem wp_region_kw {P : Program} {C : World → Prop} {id : Nat} {Q : Exit → Act → World → Prop} {a : Act} {w : World} {l : List Oper} (hm : P.follows .mixedOrders = true) (hB : Region.lexB .any l.toArray = true) (hC : C w.drew)
    (h : wpQuiet P l.toArray C (fun a' => ∀ w', C w' → Q .normal a' w') l a) : (Code.region id l.toArray true).wp P Q a w :=
  wp_region_quiet (C := C) hm hB hC (by simpa using h)
theorem Kept.then {a b c : World} (h : Kept [] a b) (k : Kept [] b c) : Kept [] a c := h.trans k (by simp)
end Go.Proofs.YtibapmjgpnldgaaGreatDoor
/-
  isKey, choices, fits, Formed.
-/
namespace Go.Proofs.YtibapmjgpnldgaaGreatDoor
open Go.RowKit
set_option maxRecDepth 100000
set_option linter.unusedVariables false
section
variable {w : World}
set_option maxHeartbeats 1000000 in
theorem isKey30 (s : List UInt8) (hs : s.length ≤ 9223372036854775807) : Calls Tryz.prog 30 #[.string ⟨s.toArray⟩] w fun e w' => e = .returned (.bool (isKey s)) ∧ w = w' := by
  have hz : (⟨s.toArray⟩ : ByteArray).size = s.length := by simp [ByteArray.size]
  unfold isKey
  by_cases h1 : 1 ≤ s.length
  · have h1' : (1 : Int) ≤ (s.length : Int) := by omega
    by_cases h2 : s.length ≤ 40
    · have h2' : (s.length : Int) ≤ 40 := by omega
      have e : (decide (1 ≤ s.length) && decide (s.length ≤ 40)) = true := by simp [h1, h2]
      rw [e]
      go_enter Tryz.func30, Tryz.ntmps30
      go_wp2_with fail
      go_ret
      exact ⟨rfl, rfl⟩
    · have h2' : ¬ (s.length : Int) ≤ 40 := by omega
      have e : (decide (1 ≤ s.length) && decide (s.length ≤ 40)) = false := by simp [h2]
      rw [e]
      go_enter Tryz.func30, Tryz.ntmps30
      go_wp2_with fail
      go_ret
      exact ⟨rfl, rfl⟩
  · have h1' : ¬ (1 : Int) ≤ (s.length : Int) := by omega
    have e : (decide (1 ≤ s.length) && decide (s.length ≤ 40)) = false := by simp [h1]
    rw [e]
    go_enter Tryz.func30, Tryz.ntmps30
    go_wp2_with fail
    go_ret
    exact ⟨rfl, rfl⟩
set_option maxHeartbeats 1000000 in
theorem choices61 {a b : Option Addr} {nn nc c d : Nat} (k : Nat) (hk : k ≤ 5) (hn : nn ≤ 1000) (hc : nc ≤ 1000) : Calls Tryz.prog 58 #[.agg #[.slice a nn c, .slice b nc d], .int .i64 (k : Int)] w fun e w' => e = .returned (.int .i64 (choiceN nn nc k)) ∧ Kept [] w w' := by
  unfold choiceN
  match k, hk with
  | 0, _ =>
    go_enter Tryz.func58, Tryz.ntmps58
    go_wp2_with fail
    go_ret
    exact ⟨rfl, (Kept.refl [] w).alloc _⟩
  | 1, _ =>
    go_enter Tryz.func58, Tryz.ntmps58
    go_wp2_with fail
    go_ret
    exact ⟨rfl, (Kept.refl [] w).alloc _⟩
  | 2, _ =>
    go_enter Tryz.func58, Tryz.ntmps58
    go_wp2_with fail
    go_ret
    exact ⟨rfl, (Kept.refl [] w).alloc _⟩
  | 3, _ =>
    go_enter Tryz.func58, Tryz.ntmps58
    go_wp2_with fail
    go_ret
    exact ⟨rfl, (Kept.refl [] w).alloc _⟩
  | 4, _ =>
    have hc' : (nc : Int) ≤ 1000 := by omega
    go_enter Tryz.func58, Tryz.ntmps58
    go_wp2_with fail
    go_ret
    exact ⟨rfl, (Kept.refl [] w).alloc _⟩
  | 5, _ =>
    go_enter Tryz.func58, Tryz.ntmps58
    go_wp2_with fail
    go_ret
    exact ⟨rfl, (Kept.refl [] w).alloc _⟩
end
end Go.Proofs.YtibapmjgpnldgaaGreatDoor
