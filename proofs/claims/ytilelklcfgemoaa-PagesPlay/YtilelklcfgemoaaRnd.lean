/-
  A region inside a round of a range over a function, walked as anywhere; slices.Backward's iterator. Nothing of the first part speaks of the program.
-/
import Derived.Test.YtilelklcfgemoaaIs
import Derived.RangeFuncNested
import Derived.RangeFuncBound
import Derived.RangeFuncCalls
import Derived.RangeFuncLeaves
import Derived.Shelf.Abstract
import Derived.Shelf.RegionOpen
import Derived.OwnWalkIn
import Derived.TacticsInMore
import Derived.LoopNIn
import Derived.LoopIn
import Derived.OrdersIn
import Derived.OrdersHeld
namespace Go.Proofs.Ytilelklcfgemoaa
open Go.RowKit Go.Shelf
set_option linter.unusedVariables false

section
variable {P : Program} {ops : Array Oper} {Q : Exit → Act → World → Prop} {l n : Nat}
theorem rows_round {row : String} {args : Array Value} {w : World} {R : Value → World → Prop} (h : Rows P row args w R) : RowsIn (Fence.wide.inRound l) n P row args w R := fun c cs _ => by
  obtain ⟨v, w', r, s⟩ := h c cs
  exact ⟨v, w', r, stepsIn_wide.2 s⟩
theorem upon_round {o : Oper} {a : Act} {next : Act → World → Prop} : ∀ (r : Result Next), o.upon P a next Q r → o.uponIn (Fence.wide.inRound l) n P a next Q r := by
  intro r h
  cases r with
  | ok x w' =>
    cases x with
    | value v => exact h
    | skip => exact h
    | defer d => exact h
    | enter f args => exact ⟨(fun hd => absurd hd (by simp [Fence.inRound, Fence.wide])), CallsIn.inRound l (callsIn_wide.2 h)⟩
    | row r args => exact ⟨(fun hd => absurd hd (by simp [Fence.inRound, Fence.wide])), rows_round h⟩
    | _ => exact h.elim
  | halt x w' =>
    cases x with
    | panic v => exact h
    | _ => exact h.elim
theorem wpOp_round (hnd : ∀ (i : Nat) (o : Oper), ops[i]? = some o → ∀ c, o.op ≠ .defer c) (hQ : ¬ LetsOut Q) {i : Nat} {K : Act → World → Prop} {a : Act} {w : World} (h : wpOp P ops Q i K a w) : wpOpIn (Fence.wide.inRound l) n P ops Q i K a w := by
  unfold wpOp at h
  unfold wpOpIn
  cases ho : ops[i]? with
  | none => rw [ho] at h; exact h
  | some o =>
    rw [ho] at h
    simp only at h ⊢
    by_cases hw : Region.wanted o (yielded ops a.tmps) = true
    · rw [if_pos hw] at h ⊢
      rcases h with h | h
      · refine ⟨fun _ _ => trivial, ?_⟩
        rw [Fence.inRound_round, Oper.semAt_some l _ _ (hnd i o ho)]
        exact upon_round _ h
      · exact absurd h.2 hQ
    · rw [if_neg hw] at h ⊢
      exact ⟨fun _ _ => trivial, h⟩
theorem wpAny_round {md : Region.Mode} (hnd : ∀ (i : Nat) (o : Oper), ops[i]? = some o → ∀ c, o.op ≠ .defer c) (hQ : ¬ LetsOut Q) : ∀ (fuel : Nat) (listed : Array Bool) (a : Act) (w : World), wpAny P md ops Q fuel listed a w → wpAnyIn (Fence.wide.inRound l) n P md ops Q fuel listed a w
  | 0, _, _, _, h => h
  | fuel + 1, _, _, _, h => ⟨h.1, fun i hi => wpOpIn_mono (fun a w => wpAny_round hnd hQ fuel _ a w) (wpOp_round hnd hQ (h.2 i hi))⟩
/-- No operation is a defer statement. -/
def noDefer (o : Oper) : Bool := match o.op with
  | .defer _ => false
  | _ => true
theorem noDefer_all (h : ops.all noDefer = true) : ∀ (i : Nat) (o : Oper), ops[i]? = some o → ∀ c, o.op ≠ .defer c := fun i o ho c hc => by
  obtain ⟨hi, rfl⟩ := Array.getElem?_eq_some_iff.1 ho
  have := (Array.all_eq_true.1 h) i hi
  unfold noDefer at this
  rw [hc] at this
  cases this
/-- A drawn region of a round: S is shown of the world behind the draw. -/
theorem wpIn_region_held {id : Nat} {a : Act} {w : World} {S : World → Prop} (hm : P.follows .mixedOrders = true) (hnd : ops.all noDefer = true) (hQ : ¬ LetsOut Q) (hS : S w.drew)
    (h : S w.drew → wpAnyH P .any ops Q S ops.size (Array.replicate ops.size false) a w.drew) : (Code.region id ops true).wpIn (Fence.wide.inRound l) n P Q a w :=
  wpIn_region_any hm (wpAny_round (noDefer_all hnd) hQ _ _ _ _ (wpAny_of_held _ _ _ _ (h hS)))
end

attribute [local go_sem] Oper.semAt_some
/-- The number of an int. -/
def numOf : Value → Int
  | .int _ a => a
  | _ => 0
/-- The blocks A and B are as they were. -/
def KpB (b1 b2 : Nat) (W W' : World) : Prop := W'.heap[b1]? = W.heap[b1]? ∧ W'.heap[b2]? = W.heap[b2]?
theorem kpB_t {b1 b2 : Nat} {A B C : World} (h : KpB b1 b2 A B) (k : KpB b1 b2 B C) : KpB b1 b2 A C := ⟨k.1.trans h.1, k.2.trans h.2⟩
/-- An index of bs. -/
abbrev Ix (bs : List Nat) := { j : Nat // j < bs.length }
/-- What has come when k rounds of the backward walk are over. -/
def back (bs : List Nat) (h : 0 < bs.length) (k : Nat) : List (Ix bs) := (List.range k).map fun j => ⟨bs.length - 1 - j, by omega⟩
theorem back_succ (bs : List Nat) (h : 0 < bs.length) (k : Nat) : back bs h (k + 1) = back bs h k ++ [⟨bs.length - 1 - k, by omega⟩] := by simp [back, List.range_succ]
theorem back_length (bs : List Nat) (h : 0 < bs.length) (k : Nat) : (back bs h k).length = k := by simp [back]
set_option maxRecDepth 100000 in
set_option maxHeartbeats 2000000 in
theorem backward1 (n : Nat) (l Bs b off cap : Nat) (bs : List Nat) (hp : 0 < bs.length) (hbig : bs.length ≤ 1000000) (J Jx : List (Ix bs) → World → Prop)
    (hY : ∀ pre x W, J pre W → pre.length < bs.length → YieldAt Fence.wide (n - 1) Try.prog l #[.int .i64 (x.1 : Int), .int .i64 (bs.getD x.1 0 : Int)] W fun e W' =>
      (e = .returned (.bool true) ∧ J (pre ++ [x]) W' ∧ KpB Bs b W W') ∨ (e = .returned (.bool false) ∧ Jx (pre ++ [x]) W'))
    (W : World) (hBs : W.heap[Bs]? = some (.cells #[.slice (some ⟨b, off, none⟩) bs.length cap] 36 (0, 0))) (hc : ∀ j, j < bs.length → W.cell? ⟨b, off + j, none⟩ = some (.int .i64 (bs.getD j 0 : Int))) (h0 : J [] W) :
    CallsIn Fence.wide n Try.prog 57 #[.func (.yield l) #[] #[], .pointer (some ⟨Bs, 0, none⟩)] W fun e W' => (∃ v, e = .returned v) ∧
      ((∃ ys, ys = back bs hp bs.length ∧ J ys W') ∨ (∃ pre, (∃ k, k ≤ bs.length ∧ pre = back bs hp k) ∧ Jx pre W')) := by
  refine callsIn_of_wp Try.func57 rfl trivial ?_ rfl
  simp only [Try.ntmps57, List.size_toArray, List.length_cons, List.length_nil, Nat.reduceAdd, Nat.reduceSub, Array.replicate_succ, Array.replicate_zero, List.push_toArray, List.append_toArray, List.nil_append, List.cons_append]
  have hBc : W.cell? ⟨Bs, 0, none⟩ = some (.slice (some ⟨b, off, none⟩) bs.length cap) := by simp [World.cell?, hBs]
  gi_wp2
  gi_loopw [3] (fun i wr => ∃ k : Nat, k ≤ bs.length ∧ i = .int .i64 ((bs.length : Int) - 1 - (k : Int)) ∧ J (back bs hp k) wr ∧ KpB Bs b W wr)
    (fun i _ => (numOf i + 1).toNat)
  case atStart => exact ⟨0, Nat.zero_le _, by simp, h0, rfl, rfl⟩
  case round =>
    obtain ⟨k, hk, rfl, hJs, hnx⟩ := hrel
    have hBr : wr.cell? ⟨Bs, 0, none⟩ = some (.slice (some ⟨b, off, none⟩) bs.length cap) := (World.cell?_of_block (w := W) hnx.1).trans hBc
    by_cases hlt : k < bs.length
    · have hj : (bs.length : Int) - 1 - (k : Int) = ((bs.length - 1 - k : Nat) : Int) := by omega
      have hcx : wr.cell? ⟨b, off + (bs.length - 1 - k), none⟩ = some (.int .i64 (bs.getD (bs.length - 1 - k) 0 : Int)) := (World.cell?_of_block (w := W) hnx.2).trans (hc _ (by omega))
      obtain ⟨fn, tmps, assign, body, hy, hR⟩ := hY _ ⟨bs.length - 1 - k, by omega⟩ wr hJs (by rw [back_length]; exact hlt)
      dsimp only at hy
      rw [hj]
      have Hbk := Hid.mk (back_succ bs hp k)
      rw [← Hbk.out] at hR
      have hjl : ((bs.length - 1 - k : Nat) : Int) < (bs.length : Int) := by omega
      have Hje : Hid (((bs.length - 1 - k : Nat) : Int) - 1 = (bs.length : Int) - 1 - ((k + 1 : Nat) : Int)) := by show _ = _; omega
      have hjk : bs.length - 1 - k < 1000000 := by omega
      clear Hbk hj
      generalize bs.length - 1 - k = j at hcx hy hR hjl Hje hjk ⊢
      generalize bs.getD j 0 = A at hcx hy hR
      gi_wp2
      refine ⟨fun hd => absurd hd (by simp [Fence.wide]), hR.mono ?_⟩
      rintro e W3 (⟨rfl, hJ3, hk3⟩ | ⟨rfl, hJx3⟩)
      · gi_wp2
        go_roundw
        case rel => exact ⟨k + 1, by omega, by rw [Hje.out], hJ3, kpB_t hnx hk3⟩
        case measure => simp only [numOf]; omega
      · gi_wp2
        refine bodyPost_ret (results_none rfl _ _ _) rfl ?_
        exact ⟨⟨_, rfl⟩, .inr ⟨_, ⟨k + 1, by omega, rfl⟩, hJx3⟩⟩
    · obtain rfl : k = bs.length := by omega
      have hneg : (bs.length : Int) - 1 - (bs.length : Int) = -1 := by omega
      rw [hneg]
      gi_wp2
      go_end0
      exact ⟨⟨_, rfl⟩, .inl ⟨_, rfl, hJs⟩⟩
set_option maxHeartbeats 1000000 in
theorem backward_in (n : Nat) (a : Option Addr) (len cap : Nat) (w : World) :
    CallsIn Fence.wide n Try.prog 46 #[.slice a len cap] w fun e w' => e = .returned (.func (.func 57) #[] #[.pointer (some ⟨w.heap.size, 0, none⟩)]) ∧ w' = w.alloc (.cells #[.slice a len cap] 36) := by
  refine callsIn_of_wp Try.func46 rfl trivial ?_ rfl
  simp only [Try.ntmps46, List.size_toArray, List.length_cons, List.length_nil, Nat.reduceAdd, Nat.reduceSub, Array.replicate_succ, Array.replicate_zero, List.push_toArray, List.append_toArray, List.nil_append, List.cons_append]
  gi_wp2
  go_ret
  exact ⟨rfl, rfl⟩
/-- slices.Backward(bs) hands back what gives the pairs of index and element, the last first; it leans on its box and on the row. -/
theorem backward_stops (n : Nat) (Bs b off cap : Nat) (bs : List Nat) (hp : 0 < bs.length) (hbig : bs.length ≤ 1000000) (w : World) (hbl : b < w.heap.size)
    (hBs : w.heap[Bs]? = some (.cells #[.slice (some ⟨b, off, none⟩) bs.length cap] 36 (0, 0))) (hc : ∀ j, j < bs.length → w.cell? ⟨b, off + j, none⟩ = some (.int .i64 (bs.getD j 0 : Int))) :
    SeqStopsK Fence.wide n Try.prog 57 #[.pointer (some ⟨Bs, 0, none⟩)] (fun x : Ix bs => #[Value.int .i64 (x.1 : Int), Value.int .i64 (bs.getD x.1 0 : Int)]) (KpB Bs b) (fun ys => ys = back bs hp bs.length) (fun pre => ∃ k, k ≤ bs.length ∧ pre = back bs hp k) bs.length w := fun l J Jx W hW _ _ hY h0 =>
  backward1 n l Bs b off cap bs hp hbig J Jx hY W ((hW.block Bs (lt_of_block hBs)).trans hBs) (fun j hj => (hW.cell (p := ⟨b, off + j, none⟩) hbl).trans (hc j hj)) h0
end Go.Proofs.Ytilelklcfgemoaa
