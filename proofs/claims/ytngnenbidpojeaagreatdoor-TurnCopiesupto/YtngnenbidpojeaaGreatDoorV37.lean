import Derived.RangeFuncNested
import Derived.RangeFuncBound
import Derived.RangeFuncCalls
import Derived.RangeFuncLeaves
import Derived.Shelf.Abstract
import Derived.Shelf.RegionOpen
import Derived.OwnWalkIn
import Derived.TacticsInMore
import Derived.LoopNIn
import Derived.LoopIn
import Derived.OrdersIn
import Derived.OrdersHeld
import Derived.Test.YtngnenbidpojeaaGreatDoorV09
import Derived.Test.YtngnenbidpojeaaGreatDoorV12
import Derived.Test.YtngnenbidpojeaaGreatDoorV14
import Derived.Test.YtngnenbidpojeaaGreatDoorV35
import Derived.Test.YtngnenbidpojeaaGreatDoorV36
/-
  readWaiting: the letters that bytes go on with.
-/
namespace Go.Proofs.YtngnenbidpojeaaGreatDoor
set_option maxRecDepth 100000
open Go.RowKit
set_option linter.unusedVariables false
/-- '[]byte(s)'. -/
theorem bytes_of (w : World) (l : List UInt8) (hl : l.length ≤ maxLen) : ∃ cap w', (convert 9 73 (.string ⟨l.toArray⟩)).run Tryz.prog w = .ok (.slice (some ⟨w.heap.size, 0, none⟩) l.length cap) w' ∧ Reads w' (.slice (some ⟨w.heap.size, 0, none⟩) l.length cap) l ∧ Kept [] w w' ∧ w.heap.size < w'.heap.size := by
  have hsz : (⟨l.toArray⟩ : ByteArray).size = l.length := by simp [ByteArray.size]
  have hrun := run_bytes_of_string (P := Tryz.prog) w 9 73 5 ⟨l.toArray⟩ Tryz.underlying9 Tryz.underlying73 Tryz.underlying5
  rw [hsz] at hrun
  refine ⟨_, _, hrun, ⟨_, _, rfl, grownCap_ge w _ _ _, grownCap_le_maxLen w _ _ _ hl, by simp, fun _ => ⟨w.heap.size, 0, rfl, fun j u hu => ?_⟩⟩, ((Kept.refl [] w).drew).alloc _, by simp⟩
  rw [Nat.zero_add, cell_of_row _ w.heap.size j _ 5 _ (heap_alloc_new w.drew _)]
  have hj : j < l.length := (List.getElem?_eq_some_iff.1 hu).1
  unfold bytesRow
  rw [Array.getElem?_append_left (by simpa using hj)]
  simp [hu, B8]
/-- n letters more: the keys are not looked at. -/
def rlp (own : List UInt8) : Nat → List Ot → List UInt8 → Option (List Ot × List UInt8)
  | 0, L, l => some (L, l)
  | n + 1, L, l => (txt l).bind fun a => (txt a.2).bind fun b => (decL b.1).bind fun x => if x.fr ≠ own then none else rlp own n (L ++ [⟨a.1, x⟩]) b.2
theorem rlp_ext (own : List UInt8) : ∀ (n : Nat) (L : List Ot) (l : List UInt8) (L' : List Ot) (r : List UInt8), rlp own n L l = some (L', r) → ∃ X, L' = L ++ X ∧ X.length = n
  | 0, L, l, L', r, h => by
    rw [rlp] at h
    simp at h
    exact ⟨[], by simp [h.1], rfl⟩
  | n + 1, L, l, L', r, h => by
    rw [rlp] at h
    cases h1 : txt l with
    | none => rw [h1] at h; cases h
    | some a =>
      rw [h1] at h
      dsimp only [Option.bind_some] at h
      cases h2 : txt a.2 with
      | none => rw [h2] at h; cases h
      | some b =>
        rw [h2] at h
        dsimp only [Option.bind_some] at h
        cases h3 : decL b.1 with
        | none => rw [h3] at h; cases h
        | some x =>
          rw [h3] at h
          dsimp only [Option.bind_some] at h
          split at h
          · cases h
          · obtain ⟨X, e, hX⟩ := rlp_ext own n _ _ _ _ h
            exact ⟨⟨a.1, x⟩ :: X, by rw [e]; simp, by simp [hX]⟩
theorem rls_rlp (own : List UInt8) (K : List La) : ∀ (n : Nat) (L : List Ot) (l : List UInt8), (∀ y ∈ L, hasK K y.to = true) → rls own K n L l = (rlp own n L l).bind fun a => if (∀ y ∈ a.1, hasK K y.to = true) then some a else none
  | 0, L, l, hL => by
    rw [rls, rlp]
    dsimp only [Option.bind_some]
    rw [if_pos hL]
  | n + 1, L, l, hL => by
    rw [rls, rlp]
    cases h1 : txt l with
    | none => rfl
    | some a =>
      dsimp only [Option.bind_some]
      cases h2 : txt a.2 with
      | none => rfl
      | some b =>
        dsimp only [Option.bind_some]
        cases h3 : decL b.1 with
        | none => rfl
        | some x =>
          dsimp only [Option.bind_some]
          by_cases h4 : x.fr ≠ own
          · rw [if_pos (.inl h4), if_pos h4]; rfl
          · rw [if_neg h4]
            cases h5 : hasK K a.1 with
            | false =>
              rw [if_pos (.inr rfl)]
              cases h6 : rlp own n (L ++ [⟨a.1, x⟩]) b.2 with
              | none => rfl
              | some c =>
                obtain ⟨L', r⟩ := c
                obtain ⟨X, e, -⟩ := rlp_ext own n _ _ _ _ h6
                dsimp only [Option.bind_some]
                rw [if_neg]
                intro hh
                have := hh ⟨a.1, x⟩ (by rw [e]; simp)
                rw [h5] at this
                cases this
            | true =>
              rw [if_neg (by rintro (h | h); exact h4 h; cases h)]
              exact rls_rlp own K n _ _ (fun y hy => by
                rcases List.mem_append.1 hy with h | h
                · exact hL y h
                · simp at h; subst h; exact h5)
theorem decL_nil : decL [] = none := by decide +kernel
theorem rlp_no {own : List UInt8} {L : List Ot} {l : List UInt8} {n : Nat} (h : decL (rtext (rtext l false).2.1 (rtext l false).2.2).1 = none ∨ ∃ x, decL (rtext (rtext l false).2.1 (rtext l false).2.2).1 = some x ∧ x.fr ≠ own) : rlp own (n + 1) L l = none := by
  rw [rlp]
  cases ht : txt l with
  | none => rfl
  | some a =>
    obtain ⟨k, r⟩ := a
    rw [txt_some ht] at h
    dsimp only [Option.bind_some] at h ⊢
    cases hn : txt r with
    | none => rfl
    | some b =>
      obtain ⟨s, r2⟩ := b
      rw [txt_some hn] at h
      dsimp only [Option.bind_some] at h ⊢
      rcases h with h | ⟨x, h, h'⟩
      · rw [h]; rfl
      · rw [h]
        dsimp only [Option.bind_some]
        rw [if_pos h']
theorem rlp_yes {own : List UInt8} {L : List Ot} {l : List UInt8} {n : Nat} {x : Lt} (h : decL (rtext (rtext l false).2.1 (rtext l false).2.2).1 = some x) (hf : x.fr = own) : (rtext (rtext l false).2.1 (rtext l false).2.2).2.2 = false ∧ rlp own (n + 1) L l = rlp own n (L ++ [⟨(rtext l false).1, x⟩]) (rtext (rtext l false).2.1 (rtext l false).2.2).2.1 := by
  rw [rlp]
  cases ht : txt l with
  | none =>
    rw [txt_none ht] at h
    have e : (rtext [] true).1 = [] := rfl
    dsimp only at h
    rw [e, decL_nil] at h
    cases h
  | some a =>
    obtain ⟨k, r⟩ := a
    rw [txt_some ht] at h ⊢
    dsimp only [Option.bind_some] at h ⊢
    cases hn : txt r with
    | none =>
      rw [txt_none hn, decL_nil] at h
      cases h
    | some b =>
      obtain ⟨s, r2⟩ := b
      rw [txt_some hn] at h ⊢
      dsimp only [Option.bind_some] at h ⊢
      rw [h]
      dsimp only [Option.bind_some]
      rw [if_neg (by simp [hf])]
      exact ⟨rfl, rfl⟩
section
variable {w0 w w' : World} {p q : Nat} {own : List UInt8} {K : List La} {qs : List Yq} {l : List UInt8} {bad : Bool}
/-- What reading answers and leaves. -/
def WtAt (w0 : World) (p q : Nat) (own : List UInt8) (K : List La) (o : Option (List Ot × List UInt8)) (e : Ending) (w' : World) : Prop :=
  (∃ qs l, o = some (qs.map ot, l) ∧ e = .returned (.bool true) ∧ St w0 w' p q own K qs l false) ∨
  (o = none ∧ ∃ b qs l bad, e = .returned (.bool b) ∧ St w0 w' p q own K qs l bad ∧ (b = true → bad = true))
theorem wt_no {w' : World} {qs' : List Yq} {l' : List UInt8} {bad' : Bool} {o : Option (List Ot × List UInt8)} (ho : o = none) (h : St w0 w' p q own K qs' l' bad') : WtAt w0 p q own K o (.returned (.bool false)) w' := .inr ⟨ho, false, qs', l', bad', rfl, h, (fun h => by cases h)⟩
theorem wt_bad {w' : World} {qs' : List Yq} {l' : List UInt8} {o : Option (List Ot × List UInt8)} (ho : o = none) (h : St w0 w' p q own K qs' l' true) : WtAt w0 p q own K o (.returned (.bool true)) w' := .inr ⟨ho, true, qs', l', true, rfl, h, (fun _ => rfl)⟩
theorem wt_yes {w' : World} {qs' : List Yq} {l' : List UInt8} {o : Option (List Ot × List UInt8)} (ho : o = some (qs'.map ot, l')) (h : St w0 w' p q own K qs' l' false) : WtAt w0 p q own K o (.returned (.bool true)) w' := .inl ⟨qs', l', ho, rfl, h⟩
/-- The letters that bytes go on with. -/
def rlN (own : List UInt8) (l : List UInt8) : Option (List Ot × List UInt8) := (num l).bind fun d => if 32 < d.1 then none else rlp own d.1 [] d.2
set_option maxHeartbeats 4000000 in
theorem readW46 (h : St w0 w p q own K [] l false) (hl : l.length ≤ 140737488355328) : Calls Tryz.prog 142 #[.pointer (some ⟨p, 0, none⟩), .pointer (some ⟨q, 0, none⟩)] w fun e w' => WtAt w0 p q own K (rlN own l) e w' := by
  have HN : Hid (∀ W qs' l' bad', rlN own l = none → St w0 W p q own K qs' l' bad' → WtAt w0 p q own K (rlN own l) (.returned (.bool false)) W) := fun W qs' l' bad' => wt_no
  have HBD : Hid (∀ W qs' l', rlN own l = none → St w0 W p q own K qs' l' true → WtAt w0 p q own K (rlN own l) (.returned (.bool true)) W) := fun W qs' l' => wt_bad
  have HY : Hid (∀ W (qs' : List Yq) l', rlN own l = some (qs'.map ot, l') → St w0 W p q own K qs' l' false → WtAt w0 p q own K (rlN own l) (.returned (.bool true)) W) := fun W qs' l' => wt_yes
  generalize WtAt w0 p q own K (rlN own l) = R at HN HBD HY
  have HA := Hid.mk (st_num h)
  clear h
  go_enter Tryz.func142, Tryz.ntmps142
  go_wp2_with fail
  refine HA.out.mono ?_
  rintro e w1 ⟨rfl, h1, -⟩
  clear HA
  cases hn : num l with
  | none =>
    have HO : Hid (rlN own l = none) := by show _ = _; unfold rlN; rw [hn]; rfl
    rw [num_none hn] at h1 ⊢
    have HS := Hid.mk (HBD.out _ _ _ HO.out h1)
    clear hn h1 HN HBD HY HO
    dsimp only
    go_wp2_with fail
    go_loopw [14] (fun i wr => i = .int .u64 0 ∧ Hid (R (.returned (.bool true)) wr)) (fun _ _ => 0)
    case atStart => exact ⟨rfl, HS⟩
    case round =>
      obtain ⟨rfl, hS⟩ := hrel
      go_wp2_with fail
      exact hS.out
  | some b =>
    obtain ⟨n, r⟩ := b
    have hn64 := num_lt hn
    have hrl : r.length ≤ l.length := by have := congrArg List.length (num_fwd hn); rw [List.length_append] at this; omega
    rw [num_some hn] at h1 ⊢
    by_cases h64 : 32 < n
    · have HO : Hid (rlN own l = none) := by show _ = _; unfold rlN; rw [hn]; show (if 32 < n then none else _) = none; rw [if_pos h64]
      have HS := Hid.mk (HN.out _ _ _ _ HO.out h1)
      have g64 : (32 : Int) < (n : Int) := by omega
      clear hn h1 HN HBD HY HO
      dsimp only
      go_wp2_with fail
      exact HS.out
    · have HO : Hid (rlN own l = rlp own n [] r) := by show _ = _; unfold rlN; rw [hn]; show (if 32 < n then none else _) = _; rw [if_neg h64]
      have g64 : ((32 : Int) < (n : Int)) = False := eq_false (by omega)
      have H1 := Hid.mk h1
      clear hn h1
      dsimp only
      go_wp2_with fail
      go_loopw [14] (fun i wr => ∃ (j : Nat) (qs : List Yq) (r : List UInt8), i = .int .u64 (j : Int) ∧ j ≤ n ∧ qs.length = j ∧ r.length ≤ l.length ∧ Hid (St w0 wr p q own K qs r false ∧ rlN own l = rlp own (n - j) (qs.map ot) r)) (fun i _ => n - (intOf i).toNat)
      case atStart => exact ⟨0, [], r, rfl, by omega, rfl, hrl, Hid.mk ⟨H1.out, HO.out⟩⟩
      case round =>
        clear H1 HO
        obtain ⟨j, qs, r, rfl, hj, hql, hrl, hH⟩ := hrel
        obtain ⟨hS, hO⟩ := hH.out
        by_cases hlt : j < n
        · have hjI : (j : Int) < (n : Int) := by omega
          have H2 := Hid.mk (st_text hS (by omega))
          have HOO := Hid.mk hO
          clear hH hS hO
          go_wp2_with fail
          refine H2.out.mono ?_
          rintro e w2 ⟨rfl, h2, -⟩
          have H3 := Hid.mk (st_text h2 (by have := (rtext_rest r false).2; omega))
          clear H2 h2
          go_wp2_with fail
          refine H3.out.mono ?_
          rintro e w3 ⟨rfl, h3, -⟩
          clear H3
          obtain ⟨m, hm⟩ : ∃ m, n - j = m + 1 := ⟨n - j - 1, by omega⟩
          have HNO : Hid (decL (rtext (rtext r false).2.1 (rtext r false).2.2).1 = none ∨ (∃ x, decL (rtext (rtext r false).2.1 (rtext r false).2.2).1 = some x ∧ x.fr ≠ own) → rlN own l = none) := fun h => by rw [HOO.out, hm]; exact rlp_no h
          have HYES : Hid (∀ x, decL (rtext (rtext r false).2.1 (rtext r false).2.2).1 = some x → x.fr = own → (rtext (rtext r false).2.1 (rtext r false).2.2).2.2 = false ∧ rlN own l = rlp own m (qs.map ot ++ [⟨(rtext r false).1, x⟩]) (rtext (rtext r false).2.1 (rtext r false).2.2).2.1) := fun x a b => by rw [HOO.out, hm]; exact rlp_yes a b
          have hl1 := rtext_rest r false
          have hl2 := rtext_rest (rtext r false).2.1 (rtext r false).2.2
          have HM := Hid.mk hm
          clear HOO hm
          generalize (rtext r false).1 = kk at *
          generalize (rtext (rtext r false).2.1 (rtext r false).2.2).1 = tx at *
          generalize (rtext (rtext r false).2.1 (rtext r false).2.2).2.1 = r2 at *
          generalize (rtext (rtext r false).2.1 (rtext r false).2.2).2.2 = b2 at *
          obtain ⟨c4, W4, hcv, hr4, k4, -⟩ := bytes_of w3 tx (by simp [maxLen]; omega)
          have H4 := Hid.mk (h3.kept0 k4)
          have H75 := Hid.mk (decode18 _ tx hr4 (by omega))
          clear h3 k4 hr4
          go_wp2_with fail
          refine H75.out.mono ?_
          rintro e w5 ⟨a5, c5, rfl, hO5, k5, hf5⟩
          have H5 := Hid.mk (H4.out.kept0 k5)
          clear H75 hcv
          obtain ⟨x, hx⟩ : ∃ x, (decL tx).getD default = x := ⟨_, rfl⟩
          rw [hx] at hO5 hf5 ⊢
          obtain ⟨W6, e6, k6, hz6, hb6⟩ := box1 w5 (.cells #[Sv x.fr, .int .u64 (x.ser : Int), .int .i64 x.kind, .slice a5 x.args.length c5] 81)
          have H6 := Hid.mk (H5.out.kept0 k6)
          have E6 := Hid.mk e6
          cases hd : decL tx with
          | none =>
            have HNN := Hid.mk (HNO.out (.inl hd))
            rw [show (if (none : Option Lt).isSome = true then (0 : Int) else 2) = 2 from rfl]
            clear hd hx HYES HNO hO5 hf5 e6 k5 k6 H5 H4 HY HBD hb6
            go_wp2_with fail
            rw [E6.out]
            go_quiet (fail)
            have HS := Hid.mk (HN.out _ _ _ _ HNN.out (H6.out.kept0 ((Kept.refl [] W6).drewN nq)))
            go_wp2_with fail
            exact HS.out
          | some y =>
            rw [hd] at hx
            have hx : y = x := hx
            subst hx
            rw [show (if (some y : Option Lt).isSome = true then (0 : Int) else 2) = 0 from rfl]
            have t0 := (cells4 hb6).1
            have t1 := H6.out.isO.owner
            by_cases hfr : y.fr = own
            · obtain ⟨hb2, ho2⟩ := HYES.out y hd hfr
              subst hb2
              have HO2 := Hid.mk ho2
              have hO6 := hO5.kept k6 (by simp)
              have HFO := Hid.mk (decL_ok hd)
              rw [← hfr] at t1
              clear hd ho2 HYES HNO hO5 e6 k5 k6 H5 H4 HN HBD HY hfr
              go_wp2_with fail
              rw [E6.out]
              go_quiet (fail)
              have H7 := Hid.mk (H6.out.kept0 ((Kept.refl [] W6).drewN nq))
              have hO7 := hO6.kept ((Kept.refl [] W6).drewN nq) (by simp)
              have hb7 : (W6.drewN nq).heap[w5.heap.size]? = _ := ((Kept.refl [] W6).drewN nq).keeps hb6 (by simp)
              generalize W6.drewN nq = W7 at H7 hO7 hb7 ⊢
              obtain ⟨s0, s1, s2, s3⟩ := cells4 hb7
              have HP := Hid.mk (push60 ⟨kk, y, a5, c5⟩ H7.out.isO (by omega) hO7)
              clear t0 t1 hb6 hb7 hO6 hO7 H6 E6 hf5
              go_wp2_with fail
              refine HP.out.mono ?_
              rintro e w8 ⟨rfl, hO8, k8⟩
              have HR : Hid (St w0 w8 p q own K (qs ++ [⟨kk, y, a5, c5⟩]) r2 false ∧ rlN own l = rlp own (n - (j + 1)) ((qs ++ [(⟨kk, y, a5, c5⟩ : Yq)]).map ot) r2) := by
                refine ⟨H7.out.stored hO8 k8, ?_⟩
                rw [HO2.out]
                have := HM.out
                have e : m = n - (j + 1) := by omega
                rw [e]
                simp [ot]
              clear hO8 k8 s0 s1 s2 s3 HP H7
              go_wp2_with fail
              go_roundw
              case rel => exact ⟨j + 1, qs ++ [⟨kk, y, a5, c5⟩], r2, by go_num, by omega, by rw [List.length_append, hql]; rfl, by omega, HR⟩
              case measure => simp [intOf]; omega
            · have hq : (y.fr == own) = false := by simpa using hfr
              have HNN := Hid.mk (HNO.out (.inr ⟨y, hd, hfr⟩))
              clear hd HYES HNO hO5 hf5 e6 k5 k6 H5 H4 HY HBD
              go_wp2_with fail
              rw [E6.out]
              go_quiet (fail)
              have HS := Hid.mk (HN.out _ _ _ _ HNN.out (H6.out.kept0 ((Kept.refl [] W6).drewN nq)))
              go_wp2_with fail
              exact HS.out
        · obtain rfl : j = n := by omega
          rw [Nat.sub_self, rlp] at hO
          have HS := Hid.mk (HY.out _ _ _ hO hS)
          clear hH hS hO
          go_wp2_with fail
          exact HS.out
end
end Go.Proofs.YtngnenbidpojeaaGreatDoor
/-
  A region inside a round of a range over a function; slices.Backward's iterator over an outbox' letters.
-/
namespace Go.Proofs.YtngnenbidpojeaaGreatDoor
set_option maxRecDepth 100000
open Go.RowKit Go.Shelf
set_option linter.unusedVariables false
section
variable {P : Program} {ops : Array Oper} {Q : Exit → Act → World → Prop} {l n : Nat}
theorem rows_round {row : String} {args : Array Value} {w : World} {R : Value → World → Prop} (h : Rows P row args w R) : RowsIn (Fence.wide.inRound l) n P row args w R := fun c cs _ => by
  obtain ⟨v, w', r, s⟩ := h c cs
  exact ⟨v, w', r, stepsIn_wide.2 s⟩
theorem upon_round {o : Oper} {a : Act} {next : Act → World → Prop} : ∀ (r : Result Next), o.upon P a next Q r → o.uponIn (Fence.wide.inRound l) n P a next Q r := by
  intro r h
  cases r with
  | ok x w' =>
    cases x with
    | value v => exact h
    | skip => exact h
    | defer d => exact h
    | enter f args => exact ⟨(fun hd => absurd hd (by simp [Fence.inRound, Fence.wide])), CallsIn.inRound l (callsIn_wide.2 h)⟩
    | row r args => exact ⟨(fun hd => absurd hd (by simp [Fence.inRound, Fence.wide])), rows_round h⟩
    | _ => exact h.elim
  | halt x w' =>
    cases x with
    | panic v => exact h
    | _ => exact h.elim
theorem wpOp_round (hnd : ∀ (i : Nat) (o : Oper), ops[i]? = some o → ∀ c, o.op ≠ .defer c) (hQ : ¬ LetsOut Q) {i : Nat} {K : Act → World → Prop} {a : Act} {w : World} (h : wpOp P ops Q i K a w) : wpOpIn (Fence.wide.inRound l) n P ops Q i K a w := by
  unfold wpOp at h
  unfold wpOpIn
  cases ho : ops[i]? with
  | none => rw [ho] at h; exact h
  | some o =>
    rw [ho] at h
    simp only at h ⊢
    by_cases hw : Region.wanted o (yielded ops a.tmps) = true
    · rw [if_pos hw] at h ⊢
      rcases h with h | h
      · refine ⟨fun _ _ => trivial, ?_⟩
        rw [Fence.inRound_round, Oper.semAt_some l _ _ (hnd i o ho)]
        exact upon_round _ h
      · exact absurd h.2 hQ
    · rw [if_neg hw] at h ⊢
      exact ⟨fun _ _ => trivial, h⟩
theorem wpAny_round {md : Region.Mode} (hnd : ∀ (i : Nat) (o : Oper), ops[i]? = some o → ∀ c, o.op ≠ .defer c) (hQ : ¬ LetsOut Q) : ∀ (fuel : Nat) (listed : Array Bool) (a : Act) (w : World), wpAny P md ops Q fuel listed a w → wpAnyIn (Fence.wide.inRound l) n P md ops Q fuel listed a w
  | 0, _, _, _, h => h
  | fuel + 1, _, _, _, h => ⟨h.1, fun i hi => wpOpIn_mono (fun a w => wpAny_round hnd hQ fuel _ a w) (wpOp_round hnd hQ (h.2 i hi))⟩
/-- No operation is a defer statement. -/
def noDefer (o : Oper) : Bool := match o.op with
  | .defer _ => false
  | _ => true
theorem noDefer_all (h : ops.all noDefer = true) : ∀ (i : Nat) (o : Oper), ops[i]? = some o → ∀ c, o.op ≠ .defer c := fun i o ho c hc => by
  obtain ⟨hi, rfl⟩ := Array.getElem?_eq_some_iff.1 ho
  have := (Array.all_eq_true.1 h) i hi
  unfold noDefer at this
  rw [hc] at this
  cases this
/-- A drawn region of a round: S is shown of the world behind the draw. -/
theorem wpIn_region_held {id : Nat} {a : Act} {w : World} {S : World → Prop} (hm : P.follows .mixedOrders = true) (hnd : ops.all noDefer = true) (hQ : ¬ LetsOut Q) (hS : S w.drew)
    (h : S w.drew → wpAnyH P .any ops Q S ops.size (Array.replicate ops.size false) a w.drew) : (Code.region id ops true).wpIn (Fence.wide.inRound l) n P Q a w :=
  wpIn_region_any hm (wpAny_round (noDefer_all hnd) hQ _ _ _ _ (wpAny_of_held _ _ _ _ (h hS)))
end
attribute [local go_sem] Oper.semAt_some
/-- The number of an int. -/
def numOf : Value → Int
  | .int _ a => a
  | _ => 0
/-- The blocks A and B are as they were. -/
def KpB (b1 b2 : Nat) (W W' : World) : Prop := W'.heap[b1]? = W.heap[b1]? ∧ W'.heap[b2]? = W.heap[b2]?
theorem kpB_t {b1 b2 : Nat} {A B C : World} (h : KpB b1 b2 A B) (k : KpB b1 b2 B C) : KpB b1 b2 A C := ⟨k.1.trans h.1, k.2.trans h.2⟩
/-- An index of qs. -/
abbrev Ix (qs : List Yq) := { j : Nat // j < qs.length }
/-- What has come when k rounds of the backward walk are over. -/
def back (qs : List Yq) (h : 0 < qs.length) (k : Nat) : List (Ix qs) := (List.range k).map fun j => ⟨qs.length - 1 - j, by omega⟩
theorem back_succ (qs : List Yq) (h : 0 < qs.length) (k : Nat) : back qs h (k + 1) = back qs h k ++ [⟨qs.length - 1 - k, by omega⟩] := by simp [back, List.range_succ]
theorem back_length (qs : List Yq) (h : 0 < qs.length) (k : Nat) : (back qs h k).length = k := by simp [back]
/-- The value that is yielded. -/
def yvl (y : Yq) : Value := Yv y.to y.q.x y.q.ad y.q.cap
set_option maxHeartbeats 2000000 in
theorem backward1 (n : Nat) (l Bs b off cap : Nat) (qs : List Yq) (hp : 0 < qs.length) (hbig : qs.length ≤ 1000000) (J Jx : List (Ix qs) → World → Prop)
    (hY : ∀ pre x W, J pre W → pre.length < qs.length → YieldAt Fence.wide (n - 1) Tryz.prog l #[.int .i64 (x.1 : Int), yvl (qs[x.1]'x.2)] W fun e W' =>
      (e = .returned (.bool true) ∧ J (pre ++ [x]) W' ∧ KpB Bs b W W') ∨ (e = .returned (.bool false) ∧ Jx (pre ++ [x]) W'))
    (W : World) (hBs : W.heap[Bs]? = some (.cells #[.slice (some ⟨b, off, none⟩) qs.length cap] 127 (0, 0)))
    (hc : ∀ W', W'.heap[b]? = W.heap[b]? → ReadsR 5 W' (.slice (some ⟨b, off, none⟩) qs.length cap) (CY qs)) (h0 : J [] W) :
    CallsIn Fence.wide n Tryz.prog 159 #[.func (.yield l) #[] #[], .pointer (some ⟨Bs, 0, none⟩)] W fun e W' => (∃ v, e = .returned v) ∧
      ((∃ ys, ys = back qs hp qs.length ∧ J ys W') ∨ (∃ pre, (∃ k, k ≤ qs.length ∧ pre = back qs hp k) ∧ Jx pre W')) := by
  refine callsIn_of_wp Tryz.func159 rfl trivial ?_ rfl
  simp only [Tryz.ntmps159, List.size_toArray, List.length_cons, List.length_nil, Nat.reduceAdd, Nat.reduceSub, Array.replicate_succ, Array.replicate_zero, List.push_toArray, List.append_toArray, List.nil_append, List.cons_append]
  have hBc : W.cell? ⟨Bs, 0, none⟩ = some (.slice (some ⟨b, off, none⟩) qs.length cap) := by simp [World.cell?, hBs]
  have HC := Hid.mk hc
  clear hc
  gi_wp2
  gi_loopw [3] (fun i wr => ∃ k : Nat, k ≤ qs.length ∧ i = .int .i64 ((qs.length : Int) - 1 - (k : Int)) ∧ J (back qs hp k) wr ∧ KpB Bs b W wr)
    (fun i _ => (numOf i + 1).toNat)
  case atStart => exact ⟨0, Nat.zero_le _, by simp, h0, rfl, rfl⟩
  case round =>
    obtain ⟨k, hk, rfl, hJs, hnx⟩ := hrel
    have hBr : wr.cell? ⟨Bs, 0, none⟩ = some (.slice (some ⟨b, off, none⟩) qs.length cap) := (World.cell?_of_block (w := W) hnx.1).trans hBc
    by_cases hlt : k < qs.length
    · have hj : (qs.length : Int) - 1 - (k : Int) = ((qs.length - 1 - k : Nat) : Int) := by omega
      obtain ⟨fn, tmps, assign, body, hy, hR⟩ := hY _ ⟨qs.length - 1 - k, by omega⟩ wr hJs (by rw [back_length]; exact hlt)
      dsimp only at hy
      rw [hj]
      have Hbk := Hid.mk (back_succ qs hp k)
      rw [← Hbk.out] at hR
      have hjl : ((qs.length - 1 - k : Nat) : Int) < (qs.length : Int) := by omega
      have Hje : Hid (((qs.length - 1 - k : Nat) : Int) - 1 = (qs.length : Int) - 1 - ((k + 1 : Nat) : Int)) := by show _ = _; omega
      have hjk : qs.length - 1 - k < 1000000 := by omega
      obtain ⟨y, hyq⟩ : ∃ y, qs[qs.length - 1 - k]? = some y := ⟨_, List.getElem?_eq_getElem (by omega)⟩
      have hye : qs[qs.length - 1 - k]'(by omega) = y := by
        have h1 : qs[qs.length - 1 - k]? = some (qs[qs.length - 1 - k]'(by omega)) := List.getElem?_eq_getElem (by omega)
        rw [hyq] at h1
        injection h1 with h1
        exact h1.symm
      rw [hye] at hy
      obtain ⟨b', o', e, d0, d1, d2, d3, d4⟩ := rowY_at (HC.out _ hnx.2) hyq
      injection e with e
      injection e with e1 e2 _
      subst e1 e2
      have d4 : wr.cell? ⟨b, off + (qs.length - 1 - k) * 5 + 4, none⟩ = some (.slice y.q.ad y.q.x.args.length y.q.cap) := d4
      unfold yvl at hy
      clear Hbk hj hyq hye
      generalize qs.length - 1 - k = j at d0 d1 d2 d3 d4 hy hR hjl Hje hjk ⊢
      gi_wp2
      refine ⟨fun hd => absurd hd (by simp [Fence.wide]), hR.mono ?_⟩
      rintro e W3 (⟨rfl, hJ3, hk3⟩ | ⟨rfl, hJx3⟩)
      · gi_wp2
        go_roundw
        case rel => exact ⟨k + 1, by omega, by rw [Hje.out], hJ3, kpB_t hnx hk3⟩
        case measure => simp only [numOf]; omega
      · gi_wp2
        refine bodyPost_ret (results_none rfl _ _ _) rfl ?_
        exact ⟨⟨_, rfl⟩, .inr ⟨_, ⟨k + 1, by omega, rfl⟩, hJx3⟩⟩
    · obtain rfl : k = qs.length := by omega
      have hneg : (qs.length : Int) - 1 - (qs.length : Int) = -1 := by omega
      rw [hneg]
      gi_wp2
      go_end0
      exact ⟨⟨_, rfl⟩, .inl ⟨_, rfl, hJs⟩⟩
set_option maxHeartbeats 1000000 in
theorem backward_in (n : Nat) (a : Option Addr) (len cap : Nat) (w : World) :
    CallsIn Fence.wide n Tryz.prog 156 #[.slice a len cap] w fun e w' => e = .returned (.func (.func 159) #[] #[.pointer (some ⟨w.heap.size, 0, none⟩)]) ∧ w' = w.alloc (.cells #[.slice a len cap] 127) := by
  refine callsIn_of_wp Tryz.func156 rfl trivial ?_ rfl
  simp only [Tryz.ntmps156, List.size_toArray, List.length_cons, List.length_nil, Nat.reduceAdd, Nat.reduceSub, Array.replicate_succ, Array.replicate_zero, List.push_toArray, List.append_toArray, List.nil_append, List.cons_append]
  gi_wp2
  go_ret
  exact ⟨rfl, rfl⟩
theorem backward_none (n : Nat) (l Bs : Nat) (a : Option Addr) (cap : Nat) (W : World) (hBs : W.cell? ⟨Bs, 0, none⟩ = some (.slice a 0 cap)) :
    CallsIn Fence.wide n Tryz.prog 159 #[.func (.yield l) #[] #[], .pointer (some ⟨Bs, 0, none⟩)] W fun e W' => (∃ v, e = .returned v) ∧ W' = W := by
  refine callsIn_of_wp Tryz.func159 rfl trivial ?_ rfl
  simp only [Tryz.ntmps159, List.size_toArray, List.length_cons, List.length_nil, Nat.reduceAdd, Nat.reduceSub, Array.replicate_succ, Array.replicate_zero, List.push_toArray, List.append_toArray, List.nil_append, List.cons_append]
  gi_wp2
  gi_loopw [3] (fun i wr => i = .int .i64 (-1) ∧ wr = W) (fun _ _ => 0)
  case atStart => exact ⟨rfl, rfl⟩
  case round =>
    obtain ⟨rfl, rfl⟩ := hrel
    gi_wp2
    go_end0
    exact ⟨⟨_, rfl⟩, rfl⟩
end Go.Proofs.YtngnenbidpojeaaGreatDoor
/-
  The order, step by step; keys that stay: pure.
-/
namespace Go.Proofs.YtngnenbidpojeaaGreatDoor
set_option maxRecDepth 100000
set_option linter.unusedVariables false
/-- One letter more, from the last one back. -/
def stepB (K : List La) (y : Ot) : Option (List La) := if hasK K y.to = true ∧ ser K y.to ≠ 0 ∧ y.x.ser = ser K y.to then some (setK K y.to (ser K y.to - 1)) else none
def runB : List La → List Ot → Option (List La)
  | K, [] => some K
  | K, y :: A => (stepB K y).bind fun K' => runB K' A
theorem runB_snoc : ∀ (A : List Ot) (K : List La) (y : Ot), runB K (A ++ [y]) = (runB K A).bind fun K' => stepB K' y
  | [], K, y => by simp [runB]
  | z :: A, K, y => by
    rw [List.cons_append, runB, runB]
    cases stepB K z with
    | none => rfl
    | some K' => exact runB_snoc A K' y
theorem ordB_run : ∀ (A : List Ot) (K : List La), ordB K A = (runB K A).isSome
  | [], K => rfl
  | y :: A, K => by
    rw [ordB, runB, stepB]
    by_cases h : hasK K y.to = true ∧ ser K y.to ≠ 0 ∧ y.x.ser = ser K y.to
    · rw [if_pos h]
      dsimp only [Option.bind_some]
      rw [← ordB_run A]
      obtain ⟨h1, h2, h3⟩ := h
      simp [h1, h2, h3]
    · rw [if_neg h]
      show _ = false
      by_cases h1 : hasK K y.to = true
      · by_cases h2 : ser K y.to = 0
        · simp [h2]
        · by_cases h3 : y.x.ser = ser K y.to
          · exact absurd ⟨h1, h2, h3⟩ h
          · simp [h3]
      · simp [h1]
theorem runB_pre : ∀ (A B : List Ot) (K : List La), runB K A = none → runB K (A ++ B) = none
  | [], B, K, h => by cases h
  | y :: A, B, K, h => by
    rw [List.cons_append, runB]
    rw [runB] at h
    cases hs : stepB K y with
    | none => rfl
    | some K' =>
      rw [hs] at h
      exact runB_pre A B K' h
theorem keys_has : ∀ {K K' : List La} (to : List UInt8), K.map (·.k) = K'.map (·.k) → hasK K to = hasK K' to ∧ pla K to = pla K' to
  | [], [], to, h => ⟨rfl, rfl⟩
  | [], y :: K', to, h => by simp at h
  | y :: K, [], to, h => by simp at h
  | y :: K, z :: K', to, h => by
    simp at h
    have ih := keys_has (K := K) (K' := K') to h.2
    rw [hasK, hasK, pla, pla, h.1, ih.1, ih.2]
    exact ⟨rfl, rfl⟩
theorem setK_keys {K : List La} {to : List UInt8} (s : Nat) (h : hasK K to = true) : (setK K to s).map (·.k) = K.map (·.k) := by
  obtain ⟨t, h1, h2⟩ := has_at h
  rw [setK_has s h, List.map_set]
  refine List.ext_getElem? fun i => ?_
  rw [List.getElem?_set]
  split
  · rename_i e
    subst e
    rw [List.getElem?_map, h1]
    have := (List.getElem?_eq_some_iff.1 h1).1
    simp [this]
  · rfl
end Go.Proofs.YtngnenbidpojeaaGreatDoor
