import Derived.OpenShut
import Derived.ShutString
import Derived.ChangeOld
import Derived.SizedLaws
import Derived.Test.YtngnenbidpojeaaGreatDoorT19
import Derived.Test.YtngnenbidpojeaaGreatDoorT25
import Derived.Test.YtngnenbidpojeaaGreatDoorT40
import Derived.Test.YtngnenbidpojeaaGreatDoorT45
import Derived.Test.YtngnenbidpojeaaGreatDoorT46
/-
 The law TurnTakes: where what is handed in is of bulk at most 1048576, TurnTakes returns true, and the arguments read afterwards as before. The package's variables start as the program's text lays them.
-/
namespace Go.Proofs.YtngnenbidpojeaaGreatDoor.turnTakesUpto
open Go.ChangeShapes Go.WideShapes Go.ChangeAt Go.RowKit
open Go.ChangeMaps (open_string shut_string)
set_option linter.unusedVariables false
set_option maxRecDepth 100000
theorem reads (os : Os) {H : Type} (enc : TypeId × Value → H) : ∃ places, DataW.whole enc Tryz.prog ((laidWorld os).forCall (fun _ _ => 0) ⟨#[], #[.agg #[.slice none 0 0, .slice none 0 0], .agg #[.slice none 0 0, .slice none 0 0, .slice none 0 0, .slice none 0 0, .int .i64 0], .int .i64 0, .int .u8 0], []⟩).memory Tryz.f3.params.toList Rows.turnTakesSpec.vars false #[Value.agg #[.slice none 0 0, .slice none 0 0], .agg #[.slice none 0 0, .slice none 0 0, .slice none 0 0, .slice none 0 0, .int .i64 0], .int .i64 0, .int .u8 0].toList 8 = some ([.agg [.nil, .nil], .agg [.nil, .nil, .nil, .nil, .lit (.int .i64 0)], .lit (.int .i64 0), .lit (.int .u8 0)], [], places) :=
 ⟨[], by kernel_rfl⟩
theorem lifted (os : Os) (started : os.Started) (H : Type) (enc : TypeId × Value → H) (F : Stop.Interp) :
  ReturnsInHanded {} Tryz.checked os 3 .any ((Rows.OpenSpec.upto Rows.turnTakesSpec).preRow enc Tryz.prog Tryz.f3 Rows.turnTakesUptoRow.domain false Rows.turnTakesUptoRow.laid) (((Rows.OpenSpec.upto Rows.turnTakesSpec).at F).post enc Tryz.prog Tryz.f3 false true false false) := by
 obtain ⟨places, hx⟩ := reads os enc
 refine returnsInHanded_of_row (C := Tryz.checked) (s := Rows.OpenSpec.upto Rows.turnTakesSpec) own started (by kernel_rfl) Tryz.func3
  (witness_row_atRef (enc := enc) (C := Tryz.checked) false (laidWorld os) #[.agg #[.slice none 0 0, .slice none 0 0], .agg #[.slice none 0 0, .slice none 0 0, .slice none 0 0, .slice none 0 0, .int .i64 0], .int .i64 0, .int .u8 0] rfl (by kernel_rfl) (by kernel_rfl) (by kernel_rfl)
   (OpenSpec.preRow_of_cond 8 hx (by kernel_rfl) (fun k hk => by cases hk; kernel_rfl) (by kernel_rfl) (laid_met os _))) ?_
 intro W base args ds gs before hval0 hW _ hcond hsz0 hL hsh _
 have hval : ∀ (j : Nat) t v, Tryz.f3.params[j]? = some t → args[j]? = some v → Value.okWide Tryz.prog W .any base t v := hval0
 have hW' := hW
 obtain ⟨p, q, hA0, hV, rfl, hfz, hnd⟩ := hW
 have hA : DataW.TrodAll enc Tryz.prog W 0 (fun _ => true) true Tryz.f3.params.toList args.toList ds p := hA0
 rw [Tryz.params3] at hA hval
 obtain ⟨v0, vs0, d0, ds0, p0, q0, hargs, rfl, rfl, h0, r0⟩ := trodAll_cons hA
 obtain ⟨v1, vs1, d1, ds1, p1, q1, rfl, rfl, rfl, h1, r1⟩ := trodAll_cons r0
 obtain ⟨v2, vs2, d2, ds2, p2, q2, rfl, rfl, rfl, h2, r2⟩ := trodAll_cons r1
 obtain ⟨v3, vs3, d3, ds3, p3, q3, rfl, rfl, rfl, h3, r3⟩ := trodAll_cons r2
 obtain ⟨rfl, rfl, rfl⟩ := trodAll_nil r3
 obtain rfl : args = #[v0, v1, v2, v3] := by cases args; simp_all
 obtain ⟨rfl, rfl⟩ := trodVars_none hV
 obtain ⟨cs0, rfl, sz0⟩ := okWide_struct Tryz.underlying25 (hval 0 25 v0 rfl rfl)
 have k0 := h0
 have lt0 : ∀ x ∈ p0, x.block < W.heap.size := by obtain ⟨m, hm⟩ := k0; exact DataW.trod_lt m _ _ _ hm
 obtain ⟨pg0, R0⟩ : ∃ pg, PgIn W (.agg cs0) pg := by
  obtain ⟨fuel, hf⟩ := h0
  obtain ⟨a, b, pg, hcs, hh⟩ := open_prog hf
  obtain rfl : cs0 = #[a, b] := by cases cs0; simpa [Value.cells] using hcs
  exact ⟨pg, hh⟩
 obtain ⟨cs1, rfl, sz1⟩ := okWide_struct Tryz.underlying29 (hval 1 29 v1 rfl rfl)
 have k1 := h1
 have lt1 : ∀ x ∈ p1, x.block < W.heap.size := by obtain ⟨m, hm⟩ := k1; exact DataW.trod_lt m _ _ _ hm
 obtain ⟨ls1, ps1, ts1, es1, tr1, R1⟩ : ∃ ls ps ts es tr, StIn W (.agg cs1) ls ps ts es tr := by
  obtain ⟨fuel, hf⟩ := h1
  obtain ⟨b0, b1, b2, b3, b4, ls, ps, ts, es, tr, hcs, hbd, hh⟩ := open_startZ hf
  obtain rfl : cs1 = #[b0, b1, b2, b3, b4] := by cases cs1; simpa [Value.cells] using hcs
  have hb := small_of (hcond _ rfl)
  simp only [List.cons_append, List.nil_append, Rows.uptoBulkAll] at hb
  dsimp only at hbd
  exact ⟨ls, ps, ts, es, tr, hh (by omega)⟩
 obtain ⟨a2, rfl, rfl, rfl, w2⟩ := open_int Tryz.underlying2 (hval 2 2 v2 rfl rfl) h2
 obtain ⟨a3, rfl, rfl, rfl, w3⟩ := open_int Tryz.underlying5 (hval 3 5 v3 rfl rfl) h3
 have b3 := bounds_u8 w3
 obtain ⟨n3, rfl⟩ := Int.eq_ofNat_of_zero_le b3.1
 clear hA0 hval0
 have m : maxLen ≤ 9223372036854775807 := by decide
 have HWk := takes3 R0 (glob_ofH hL) R1 a2 (bounds_i64 w2) n3 (by omega)
 refine HWk.mono fun e W' ⟨he, hk⟩ => ?_
 have bel := hk.below
 subst he
 exact ⟨_, rfl, _, _, _, [], _, [], hW', trodAll_mk1 (shut_bool Tryz.underlying4 _), (trodAll_cons_mk (Below.trod laidOut (by kernel_rfl) (of_decide_eq_true (by kernel_rfl)) k0 bel lt0) (trodAll_cons_mk (Below.trod laidOut (by kernel_rfl) (of_decide_eq_true (by kernel_rfl)) k1 bel lt1) (trodAll_cons_mk (shut_int Tryz.underlying2 w2) (trodAll_cons_mk (shut_int Tryz.underlying5 w3) trodAll_mk0)))), rfl, bel.frame _, fun h => by cases h⟩
theorem said : Rows.TurnTakesUptoSaid :=
 OpenClaim.holds_of_cond 3 Tryz.f3 rfl rfl rfl rfl rfl rfl rfl ⟨rfl, rfl, rfl, rfl, rfl⟩ rfl rfl rfl rfl rfl (by kernel_rfl) Tryz.func3 (by kernel_rfl)
  (of_decide_eq_true (by kernel_rfl)) (by unfold Func.isWrapper; first | (rw [if_pos (by decide +kernel)]; kernel_rfl) | (rw [if_neg (by decide +kernel)]; exact ⟨rfl, rfl⟩))
  (fun os started H enc _ F => by rw [OpenClaim.pre_eq_preRow]; exact lifted os started H enc F)
theorem plain (f : FuncId) (fn : Func) (hf : Tryz.pinned.checked.prog.funcNamed "reeve/reevelaw20.TurnTakes" = some f) (hfn : Tryz.pinned.checked.prog.funcs[f]? = some fn) :
  false = Tryz.pinned.checked.prog.looks [] ∧ ∀ (j : Nat) t, fn.params[j]? = some t → Tryz.pinned.checked.prog.wantsStandIn t = false := by
 obtain rfl : f = 3 := Option.some.inj ((show Tryz.prog.funcNamed "reeve/reevelaw20.TurnTakes" = some 3 by kernel_rfl).symm.trans hf) |>.symm
 obtain rfl : fn = Tryz.f3 := (Option.some.inj (Tryz.func3.symm.trans hfn)).symm
 refine ⟨by kernel_rfl, fun j t ht => ?_⟩
 rw [Tryz.params3] at ht
 have hm := Array.mem_of_getElem? ht
 have h2 : Tryz.prog.wantsStandIn 2 = false := by kernel_rfl
 have h5 : Tryz.prog.wantsStandIn 5 = false := by kernel_rfl
 have h25 : Tryz.prog.wantsStandIn 25 = false := by kernel_rfl
 have h29 : Tryz.prog.wantsStandIn 29 = false := by kernel_rfl
 simp only [List.mem_toArray, List.mem_cons, List.not_mem_nil, or_false] at hm
 rcases hm with rfl | rfl | rfl | rfl
 ·exact h25
 ·exact h29
 ·exact h2
 ·exact h5
theorem card : Rows.TurnTakesUptoCardSaid :=
 Claim7.holds_tied_plain_at .later [] _ _ _ _ said (fun _ h => by cases h) (by kernel_rfl) (fun _ h => by cases h) turnTakesUpto_row_tie rfl ⟨rfl, rfl⟩ (by kernel_rfl) rfl plain (by kernel_rfl)
end Go.Proofs.YtngnenbidpojeaaGreatDoor.turnTakesUpto
namespace Go.Proofs.YtngnenbidpojeaaGreatDoor
theorem turnTakesUpto_holds : Rows.TurnTakesUptoCardSaid := turnTakesUpto.card
#print axioms turnTakesUpto_holds
end Go.Proofs.YtngnenbidpojeaaGreatDoor
