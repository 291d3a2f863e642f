import Derived.RangeFuncNested
import Derived.RangeFuncBound
import Derived.RangeFuncCalls
import Derived.RangeFuncLeaves
import Derived.Shelf.Abstract
import Derived.Shelf.RegionOpen
import Derived.OwnWalkIn
import Derived.TacticsInMore
import Derived.LoopNIn
import Derived.LoopIn
import Derived.OrdersIn
import Derived.OrdersHeld
import Derived.Test.YtngnenbidpojeaaGreatDoorT08
import Derived.Test.YtngnenbidpojeaaGreatDoorT10
import Derived.Test.YtngnenbidpojeaaGreatDoorT32
/-
 A region inside a round of a range over a function; slices.Backward's iterator over an outbox' letters.
-/
namespace Go.Proofs.YtngnenbidpojeaaGreatDoor
set_option maxRecDepth 100000
open Go.RowKit Go.Shelf
set_option linter.unusedVariables false
section
variable {P : Program} {ops : Array Oper} {Q : Exit → Act → World → Prop} {l n : Nat}
theorem rows_round {row : String} {args : Array Value} {w : World} {R : Value → World → Prop} (h : Rows P row args w R) : RowsIn (Fence.wide.inRound l) n P row args w R := fun c cs _ => by
 obtain ⟨v, w', r, s⟩ := h c cs
 exact ⟨v, w', r, stepsIn_wide.2 s⟩
theorem upon_round {o : Oper} {a : Act} {next : Act → World → Prop} : ∀ (r : Result Next), o.upon P a next Q r → o.uponIn (Fence.wide.inRound l) n P a next Q r := by
 intro r h
 cases r with
 | ok x w' =>
  cases x with
  | value v => exact h
  | skip => exact h
  | defer d => exact h
  | enter f args => exact ⟨(fun hd => absurd hd (by simp [Fence.inRound, Fence.wide])), CallsIn.inRound l (callsIn_wide.2 h)⟩
  | row r args => exact ⟨(fun hd => absurd hd (by simp [Fence.inRound, Fence.wide])), rows_round h⟩
  | _ => exact h.elim
 | halt x w' =>
  cases x with
  | panic v => exact h
  | _ => exact h.elim
theorem wpOp_round (hnd : ∀ (i : Nat) (o : Oper), ops[i]? = some o → ∀ c, o.op ≠ .defer c) (hQ : ¬ LetsOut Q) {i : Nat} {K : Act → World → Prop} {a : Act} {w : World} (h : wpOp P ops Q i K a w) : wpOpIn (Fence.wide.inRound l) n P ops Q i K a w := by
 unfold wpOp at h
 unfold wpOpIn
 cases ho : ops[i]? with
 | none => rw [ho] at h; exact h
 | some o =>
  rw [ho] at h
  simp only at h ⊢
  by_cases hw : Region.wanted o (yielded ops a.tmps) = true
  ·rw [if_pos hw] at h ⊢
   rcases h with h | h
   ·refine ⟨fun _ _ => trivial, ?_⟩
    rw [Fence.inRound_round, Oper.semAt_some l _ _ (hnd i o ho)]
    exact upon_round _ h
   ·exact absurd h.2 hQ
  ·rw [if_neg hw] at h ⊢
   exact ⟨fun _ _ => trivial, h⟩
theorem wpAny_round {md : Region.Mode} (hnd : ∀ (i : Nat) (o : Oper), ops[i]? = some o → ∀ c, o.op ≠ .defer c) (hQ : ¬ LetsOut Q) : ∀ (fuel : Nat) (listed : Array Bool) (a : Act) (w : World), wpAny P md ops Q fuel listed a w → wpAnyIn (Fence.wide.inRound l) n P md ops Q fuel listed a w
 | 0, _, _, _, h => h
 | fuel + 1, _, _, _, h => ⟨h.1, fun i hi => wpOpIn_mono (fun a w => wpAny_round hnd hQ fuel _ a w) (wpOp_round hnd hQ (h.2 i hi))⟩
def noDefer (o : Oper) : Bool := match o.op with
 | .defer _ => false
 | _ => true
theorem noDefer_all (h : ops.all noDefer = true) : ∀ (i : Nat) (o : Oper), ops[i]? = some o → ∀ c, o.op ≠ .defer c := fun i o ho c hc => by
 obtain ⟨hi, rfl⟩ := Array.getElem?_eq_some_iff.1 ho
 have := (Array.all_eq_true.1 h) i hi
 unfold noDefer at this
 rw [hc] at this
 cases this
theorem wpIn_region_held {id : Nat} {a : Act} {w : World} {S : World → Prop} (hm : P.follows .mixedOrders = true) (hnd : ops.all noDefer = true) (hQ : ¬ LetsOut Q) (hS : S w.drew)
  (h : S w.drew → wpAnyH P .any ops Q S ops.size (Array.replicate ops.size false) a w.drew) : (Code.region id ops true).wpIn (Fence.wide.inRound l) n P Q a w :=
 wpIn_region_any hm (wpAny_round (noDefer_all hnd) hQ _ _ _ _ (wpAny_of_held _ _ _ _ (h hS)))
end
attribute [local go_sem] Oper.semAt_some
def numOf : Value → Int
 | .int _ a => a
 | _ => 0
def KpB (b1 b2 : Nat) (W W' : World) : Prop := W'.heap[b1]? = W.heap[b1]? ∧ W'.heap[b2]? = W.heap[b2]?
theorem kpB_t {b1 b2 : Nat} {A B C : World} (h : KpB b1 b2 A B) (k : KpB b1 b2 B C) : KpB b1 b2 A C := ⟨k.1.trans h.1, k.2.trans h.2⟩
abbrev Ix (qs : List Yq) := { j : Nat // j < qs.length }
def back (qs : List Yq) (h : 0 < qs.length) (k : Nat) : List (Ix qs) := (List.range k).map fun j => ⟨qs.length - 1 - j, by omega⟩
theorem back_succ (qs : List Yq) (h : 0 < qs.length) (k : Nat) : back qs h (k + 1) = back qs h k ++ [⟨qs.length - 1 - k, by omega⟩] := by simp [back, List.range_succ]
theorem back_length (qs : List Yq) (h : 0 < qs.length) (k : Nat) : (back qs h k).length = k := by simp [back]
def yvl (y : Yq) : Value := Yv y.to y.q.x y.q.ad y.q.cap
set_option maxHeartbeats 2000000 in
theorem backward1 (n : Nat) (l Bs b off cap : Nat) (qs : List Yq) (hp : 0 < qs.length) (hbig : qs.length ≤ 1000000) (J Jx : List (Ix qs) → World → Prop)
  (hY : ∀ pre x W, J pre W → pre.length < qs.length → YieldAt Fence.wide (n - 1) Tryz.prog l #[.int .i64 (x.1 : Int), yvl (qs[x.1]'x.2)] W fun e W' =>
   (e = .returned (.bool true) ∧ J (pre ++ [x]) W' ∧ KpB Bs b W W') ∨ (e = .returned (.bool false) ∧ Jx (pre ++ [x]) W'))
  (W : World) (hBs : W.heap[Bs]? = some (.cells #[.slice (some ⟨b, off, none⟩) qs.length cap] 127 (0, 0)))
  (hc : ∀ W', W'.heap[b]? = W.heap[b]? → ReadsR 5 W' (.slice (some ⟨b, off, none⟩) qs.length cap) (CY qs)) (h0 : J [] W) :
  CallsIn Fence.wide n Tryz.prog 159 #[.func (.yield l) #[] #[], .pointer (some ⟨Bs, 0, none⟩)] W fun e W' => (∃ v, e = .returned v) ∧
   ((∃ ys, ys = back qs hp qs.length ∧ J ys W') ∨ (∃ pre, (∃ k, k ≤ qs.length ∧ pre = back qs hp k) ∧ Jx pre W')) := by
 refine callsIn_of_wp Tryz.func159 rfl trivial ?_ rfl
 simp only [Tryz.ntmps159, List.size_toArray, List.length_cons, List.length_nil, Nat.reduceAdd, Nat.reduceSub, Array.replicate_succ, Array.replicate_zero, List.push_toArray, List.append_toArray, List.nil_append, List.cons_append]
 have hBc : W.cell? ⟨Bs, 0, none⟩ = some (.slice (some ⟨b, off, none⟩) qs.length cap) := by simp [World.cell?, hBs]
 have HC := Hid.mk hc
 clear hc
 gi_wp2
 gi_loopw [3] (fun i wr => ∃ k : Nat, k ≤ qs.length ∧ i = .int .i64 ((qs.length : Int) - 1 - (k : Int)) ∧ J (back qs hp k) wr ∧ KpB Bs b W wr)
  (fun i _ => (numOf i + 1).toNat)
 case atStart => exact ⟨0, Nat.zero_le _, by simp, h0, rfl, rfl⟩
 case round =>
  obtain ⟨k, hk, rfl, hJs, hnx⟩ := hrel
  have hBr : wr.cell? ⟨Bs, 0, none⟩ = some (.slice (some ⟨b, off, none⟩) qs.length cap) := (World.cell?_of_block (w := W) hnx.1).trans hBc
  by_cases hlt : k < qs.length
  ·have hj : (qs.length : Int) - 1 - (k : Int) = ((qs.length - 1 - k : Nat) : Int) := by omega
   obtain ⟨fn, tmps, assign, body, hy, hR⟩ := hY _ ⟨qs.length - 1 - k, by omega⟩ wr hJs (by rw [back_length]; exact hlt)
   dsimp only at hy
   rw [hj]
   have Hbk := Hid.mk (back_succ qs hp k)
   rw [← Hbk.out] at hR
   have hjl : ((qs.length - 1 - k : Nat) : Int) < (qs.length : Int) := by omega
   have Hje : Hid (((qs.length - 1 - k : Nat) : Int) - 1 = (qs.length : Int) - 1 - ((k + 1 : Nat) : Int)) := by show _ = _; omega
   have hjk : qs.length - 1 - k < 1000000 := by omega
   obtain ⟨y, hyq⟩ : ∃ y, qs[qs.length - 1 - k]? = some y := ⟨_, List.getElem?_eq_getElem (by omega)⟩
   have hye : qs[qs.length - 1 - k]'(by omega) = y := by
    have h1 : qs[qs.length - 1 - k]? = some (qs[qs.length - 1 - k]'(by omega)) := List.getElem?_eq_getElem (by omega)
    rw [hyq] at h1
    injection h1 with h1
    exact h1.symm
   rw [hye] at hy
   obtain ⟨b', o', e, d0, d1, d2, d3, d4⟩ := rowY_at (HC.out _ hnx.2) hyq
   injection e with e
   injection e with e1 e2 _
   subst e1 e2
   have d4 : wr.cell? ⟨b, off + (qs.length - 1 - k) * 5 + 4, none⟩ = some (.slice y.q.ad y.q.x.args.length y.q.cap) := d4
   unfold yvl at hy
   clear Hbk hj hyq hye
   generalize qs.length - 1 - k = j at d0 d1 d2 d3 d4 hy hR hjl Hje hjk ⊢
   gi_wp2
   refine ⟨fun hd => absurd hd (by simp [Fence.wide]), hR.mono ?_⟩
   rintro e W3 (⟨rfl, hJ3, hk3⟩ | ⟨rfl, hJx3⟩)
   ·gi_wp2
    go_roundw
    case rel => exact ⟨k + 1, by omega, by rw [Hje.out], hJ3, kpB_t hnx hk3⟩
    case measure => simp only [numOf]; omega
   ·gi_wp2
    refine bodyPost_ret (results_none rfl _ _ _) rfl ?_
    exact ⟨⟨_, rfl⟩, .inr ⟨_, ⟨k + 1, by omega, rfl⟩, hJx3⟩⟩
  ·obtain rfl : k = qs.length := by omega
   have hneg : (qs.length : Int) - 1 - (qs.length : Int) = -1 := by omega
   rw [hneg]
   gi_wp2
   go_end0
   exact ⟨⟨_, rfl⟩, .inl ⟨_, rfl, hJs⟩⟩
set_option maxHeartbeats 1000000 in
theorem backward_in (n : Nat) (a : Option Addr) (len cap : Nat) (w : World) :
  CallsIn Fence.wide n Tryz.prog 156 #[.slice a len cap] w fun e w' => e = .returned (.func (.func 159) #[] #[.pointer (some ⟨w.heap.size, 0, none⟩)]) ∧ w' = w.alloc (.cells #[.slice a len cap] 127) := by
 refine callsIn_of_wp Tryz.func156 rfl trivial ?_ rfl
 simp only [Tryz.ntmps156, List.size_toArray, List.length_cons, List.length_nil, Nat.reduceAdd, Nat.reduceSub, Array.replicate_succ, Array.replicate_zero, List.push_toArray, List.append_toArray, List.nil_append, List.cons_append]
 gi_wp2
 go_ret
 exact ⟨rfl, rfl⟩
theorem backward_none (n : Nat) (l Bs : Nat) (a : Option Addr) (cap : Nat) (W : World) (hBs : W.cell? ⟨Bs, 0, none⟩ = some (.slice a 0 cap)) :
  CallsIn Fence.wide n Tryz.prog 159 #[.func (.yield l) #[] #[], .pointer (some ⟨Bs, 0, none⟩)] W fun e W' => (∃ v, e = .returned v) ∧ W' = W := by
 refine callsIn_of_wp Tryz.func159 rfl trivial ?_ rfl
 simp only [Tryz.ntmps159, List.size_toArray, List.length_cons, List.length_nil, Nat.reduceAdd, Nat.reduceSub, Array.replicate_succ, Array.replicate_zero, List.push_toArray, List.append_toArray, List.nil_append, List.cons_append]
 gi_wp2
 gi_loopw [3] (fun i wr => i = .int .i64 (-1) ∧ wr = W) (fun _ _ => 0)
 case atStart => exact ⟨rfl, rfl⟩
 case round =>
  obtain ⟨rfl, rfl⟩ := hrel
  gi_wp2
  go_end0
  exact ⟨⟨_, rfl⟩, rfl⟩
end Go.Proofs.YtngnenbidpojeaaGreatDoor
namespace Go.Proofs.YtngnenbidpojeaaGreatDoor
set_option maxRecDepth 100000
set_option linter.unusedVariables false
def stepB (K : List La) (y : Ot) : Option (List La) := if hasK K y.to = true ∧ ser K y.to ≠ 0 ∧ y.x.ser = ser K y.to then some (setK K y.to (ser K y.to - 1)) else none
def runB : List La → List Ot → Option (List La)
 | K, [] => some K
 | K, y :: A => (stepB K y).bind fun K' => runB K' A
theorem runB_snoc : ∀ (A : List Ot) (K : List La) (y : Ot), runB K (A ++ [y]) = (runB K A).bind fun K' => stepB K' y
 | [], K, y => by simp [runB]
 | z :: A, K, y => by
  rw [List.cons_append, runB, runB]
  cases stepB K z with
  | none => rfl
  | some K' => exact runB_snoc A K' y
theorem ordB_run : ∀ (A : List Ot) (K : List La), ordB K A = (runB K A).isSome
 | [], K => rfl
 | y :: A, K => by
  rw [ordB, runB, stepB]
  by_cases h : hasK K y.to = true ∧ ser K y.to ≠ 0 ∧ y.x.ser = ser K y.to
  ·rw [if_pos h]
   dsimp only [Option.bind_some]
   rw [← ordB_run A]
   obtain ⟨h1, h2, h3⟩ := h
   simp [h1, h2, h3]
  ·rw [if_neg h]
   show _ = false
   by_cases h1 : hasK K y.to = true
   ·by_cases h2 : ser K y.to = 0
    ·simp [h2]
    ·by_cases h3 : y.x.ser = ser K y.to
     ·exact absurd ⟨h1, h2, h3⟩ h
     ·simp [h3]
   ·simp [h1]
theorem runB_pre : ∀ (A B : List Ot) (K : List La), runB K A = none → runB K (A ++ B) = none
 | [], B, K, h => by cases h
 | y :: A, B, K, h => by
  rw [List.cons_append, runB]
  rw [runB] at h
  cases hs : stepB K y with
  | none => rfl
  | some K' =>
   rw [hs] at h
   exact runB_pre A B K' h
theorem keys_has : ∀ {K K' : List La} (to : List UInt8), K.map (·.k) = K'.map (·.k) → hasK K to = hasK K' to ∧ pla K to = pla K' to
 | [], [], to, h => ⟨rfl, rfl⟩
 | [], y :: K', to, h => by simp at h
 | y :: K, [], to, h => by simp at h
 | y :: K, z :: K', to, h => by
  simp at h
  have ih := keys_has (K := K) (K' := K') to h.2
  rw [hasK, hasK, pla, pla, h.1, ih.1, ih.2]
  exact ⟨rfl, rfl⟩
theorem setK_keys {K : List La} {to : List UInt8} (s : Nat) (h : hasK K to = true) : (setK K to s).map (·.k) = K.map (·.k) := by
 obtain ⟨t, h1, h2⟩ := has_at h
 rw [setK_has s h, List.map_set]
 refine List.ext_getElem? fun i => ?_
 rw [List.getElem?_set]
 split
 ·rename_i e
  subst e
  rw [List.getElem?_map, h1]
  have := (List.getElem?_eq_some_iff.1 h1).1
  simp [this]
 ·rfl
end Go.Proofs.YtngnenbidpojeaaGreatDoor
