/-
  Drawn regions whose calls only make memory: the quiet walk over the worlds that kept all of another.
-/
import Derived.Test.YtpodoiichpnpjaaDoorPm
import Derived.Deep.QuietTactic
import Derived.BigQuiet
namespace Go.Proofs.YtpodoiichpnpjaaDoor
open Go.RowKit
set_option maxRecDepth 100000
/-- A world that kept all of another. -/
structure KW (a : World) where
  w : World
  k : Kept [] a w
instance (a : World) : Nonempty (KW a) := ⟨⟨a, Kept.refl [] a⟩⟩
theorem calls_kw {P : Program} {f : FuncId} {args : Array Value} {v : Value} {a : World} {z : KW a} (h : Calls P f args z.w fun e w' => e = .returned v ∧ Kept [] z.w w') : Calls P f args z.w fun e w'' => e = .returned v ∧ ∃ z' : KW a, w'' = z'.w :=
  h.mono fun e w'' h => ⟨h.1, ⟨w'', z.k.trans h.2 (by simp)⟩, rfl⟩
theorem wp_region_kw {P : Program} {C : World → Prop} {id : Nat} {Q : Exit → Act → World → Prop} {a : Act} {w : World} {l : List Oper} (hm : P.follows .mixedOrders = true) (hB : Region.lexB .any l.toArray = true) (hC : C w.drew)
    (h : wpQuiet P l.toArray C (fun a' => ∀ w', C w' → Q .normal a' w') l a) : (Code.region id l.toArray true).wp P Q a w :=
  wp_region_quiet (C := C) hm hB hC (by simpa using h)
theorem Kept.then {a b c : World} (h : Kept [] a b) (k : Kept [] b c) : Kept [] a c := h.trans k (by simp)
end Go.Proofs.YtpodoiichpnpjaaDoor
