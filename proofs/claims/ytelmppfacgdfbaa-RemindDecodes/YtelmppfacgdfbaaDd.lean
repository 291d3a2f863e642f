/-
  Decode of a queue.
-/
import Derived.Test.YtelmppfacgdfbaaDr
namespace Go.Proofs.Ytelmppfacgdfbaa
set_option maxRecDepth 100000
open Go.RowKit Go.Shelf
set_option linter.unusedVariables false
/-- What is still to be read, after j reminders. -/
def DInv (l : List UInt8) (n j : Nat) (Q : List Rm) (r : List UInt8) (bad : Bool) : Prop :=
  (bad = true → decQ l = none) ∧ (bad = false → (64 < n → decQ l = none) ∧ (n ≤ 64 → decQ l = (rqs (n - j) Q r).bind fun b => if b.2 = [] then some b.1 else none))
theorem DInv.start (l : List UInt8) : DInv l (rnum l false).1 0 [] (rnum l false).2.1 (rnum l false).2.2 := by
  cases h : num l with
  | none =>
    rw [num_none h]
    refine ⟨fun _ => ?_, (fun h => by cases h)⟩
    unfold decQ
    rw [h]
    rfl
  | some a =>
    obtain ⟨n, r⟩ := a
    rw [num_some h]
    refine ⟨(fun h => by cases h), fun _ => ⟨fun h64 => ?_, fun h64 => ?_⟩⟩
    · unfold decQ
      rw [h]
      dsimp only [Option.bind_some]
      rw [if_pos h64]
    · unfold decQ
      rw [h]
      dsimp only [Option.bind_some]
      rw [if_neg (by omega)]
      rfl
theorem DInv.no {l : List UInt8} {n j : Nat} {Q : List Rm} {r : List UInt8} {bad : Bool} (h : DInv l n j Q r bad) (hj : j < n) (hl : Q.length = j) (hb : badC Q (rd5 r bad).1 ∨ Q.length = 64) : decQ l = none := by
  cases bad with
  | true => exact h.1 rfl
  | false =>
    obtain ⟨h1, h2⟩ := h.2 rfl
    rcases Nat.lt_or_ge 64 n with h64 | h64
    · exact h1 h64
    · have hb : badC Q (rd5 r false).1 := by rcases hb with hb | hb; exact hb; omega
      rw [h2 h64, show n - j = (n - (j + 1)) + 1 by omega]
      rcases rqs_step (n - (j + 1)) Q r with ⟨-, e⟩ | ⟨-, e, -⟩
      · rw [e]; rfl
      · rw [e hb]; rfl
theorem DInv.yes {l : List UInt8} {n j : Nat} {Q : List Rm} {r : List UInt8} {bad : Bool} (h : DInv l n j Q r bad) (hj : j < n) (hb : ¬ badC Q (rd5 r bad).1) : DInv l n (j + 1) (Q ++ [(rd5 r bad).1]) (rd5 r bad).2.1 (rd5 r bad).2.2 := by
  cases bad with
  | true => exact ⟨fun _ => h.1 rfl, fun e => by rw [rd5_true] at e; cases e⟩
  | false =>
    obtain ⟨h1, h2⟩ := h.2 rfl
    rcases rqs_step (n - (j + 1)) Q r with ⟨e0, e⟩ | ⟨e0, -, e⟩
    · refine ⟨fun _ => ?_, (fun e' => by rw [e0] at e'; cases e')⟩
      rcases Nat.lt_or_ge 64 n with h64 | h64
      · exact h1 h64
      · rw [h2 h64, show n - j = (n - (j + 1)) + 1 by omega, e]; rfl
    · refine ⟨(fun e' => by rw [e0] at e'; cases e'), fun _ => ⟨h1, fun h64 => ?_⟩⟩
      rw [h2 h64, show n - j = (n - (j + 1)) + 1 by omega, e hb]
theorem DInv.fin {l : List UInt8} {n : Nat} {Q : List Rm} {r : List UInt8} {bad : Bool} (h : DInv l n n Q r bad) (h64 : n ≤ 64) : decQ l = if (!bad && r.isEmpty) = true then some Q else none := by
  cases bad with
  | true => rw [h.1 rfl]; rfl
  | false =>
    rw [(h.2 rfl).2 h64, Nat.sub_self, rqs]
    cases r with
    | nil => rfl
    | cons a r => rfl
/-- What Decode answers and leaves. -/
def DecR (w : World) (l : List UInt8) (e : Ending) (w' : World) : Prop :=
  (decQ l = none ∧ e = .returned (.tuple #[.pointer none, Iv 2]) ∧ Kept [] w w') ∨ ∃ p Q, decQ l = some Q ∧ e = .returned (.tuple #[.pointer (some ⟨p, 0, none⟩), Iv 0]) ∧ IsQ w' p Q ∧ Kept [] w w' ∧ w.heap.size ≤ p
section
variable {w : World}
set_option maxHeartbeats 2000000 in
theorem decode14 (v : Value) (l : List UInt8) (hr : Reads w v l) (hl : l.length ≤ 140737488355328) : Calls Try.prog 14 #[v] w fun e w' => DecR w l e w' := by
  have HN : Hid (∀ W, decQ l = none → Kept [] w W → DecR w l (.returned (.tuple #[.pointer none, Iv 2])) W) := fun W h k => .inl ⟨h, rfl, k⟩
  have HY : Hid (∀ W p Q, decQ l = some Q → IsQ W p Q → Kept [] w W → w.heap.size ≤ p → DecR w l (.returned (.tuple #[.pointer (some ⟨p, 0, none⟩), Iv 0])) W) := fun W p Q h1 h2 h3 h4 => .inr ⟨p, Q, h1, rfl, h2, h3, h4⟩
  generalize DecR w l = R at HN HY
  have HR := Hid.mk hr
  clear hr
  go_enter Try.func14, Try.ntmps14
  go_wp2_with fail
  refine (newr_in v l w HR.out hl).mono ?_
  rintro e w1 ⟨q, v1, rfl, hR1, k1, hf1, hq1, hin1⟩
  have H1 := Hid.mk hR1
  have hql := hR1.lt
  clear hR1
  go_wp2_with fail
  refine (new10 (w := w1)).mono ?_
  rintro e w2 ⟨p, rfl, hB2, k2, hp2⟩
  have hwp : w.heap.size ≤ p := by have := k1.size; omega
  have h2 : St w w2 p q [] l false := ⟨hB2, GoodQ.nil, ⟨v1, H1.out.kept k2 (by simp) (by simp), fun e => by have := hin1 p e; omega⟩, hq1, hwp, k1.trans k2 (by simp)⟩
  have H3 := Hid.mk (st_num h2)
  clear h2 hB2 k2 k1 H1 hin1
  go_wp2_with fail
  refine H3.out.mono ?_
  rintro e w3 ⟨rfl, t3⟩
  have HI := Hid.mk (DInv.start l)
  have hn64 := rnum_lt l false
  have hrl := rnum_rest l false
  obtain ⟨⟨n, r0, b0⟩, hx⟩ : ∃ x, rnum l false = x := ⟨_, rfl⟩
  rw [hx] at t3 HI hn64 hrl ⊢
  dsimp only at t3 HI hn64 hrl ⊢
  have HT3 := Hid.mk t3
  clear t3 H3 hx
  go_wp2_with fail
  go_loopw [11] (fun i wr => ∃ (j : Nat) (Q : List Rm) (r : List UInt8) (bad : Bool), i = .int .u64 (j : Int) ∧ j ≤ n ∧ Q.length = j ∧ j ≤ 64 ∧ r.length ≤ l.length ∧ Hid (St w wr p q Q r bad ∧ DInv l n j Q r bad)) (fun i _ => n - (intOf i).toNat)
  case atStart => exact ⟨0, [], r0, b0, rfl, by omega, rfl, by omega, hrl, Hid.mk ⟨HT3.out, HI.out⟩⟩
  case round =>
    clear HT3 HI
    obtain ⟨j, Q, r, bad, rfl, hj, hQl, hj64, hrl2, hH⟩ := hrel
    obtain ⟨hS, hI⟩ := hH.out
    by_cases hlt : j < n
    · have hjI : (j : Int) < (n : Int) := by omega
      have HRD := Hid.mk (read36 hS (by omega))
      have HII := Hid.mk hI
      have hln := (rd5_len r bad).2.2
      clear hH hS hI
      go_wp2_with fail
      refine HRD.out.mono ?_
      rintro e w4 (⟨rfl, hb, hl64, t4⟩ | ⟨rfl, hb, k4⟩)
      · have HR4 : Hid (St w w4 p q (Q ++ [(rd5 r bad).1]) (rd5 r bad).2.1 (rd5 r bad).2.2 ∧ DInv l n (j + 1) (Q ++ [(rd5 r bad).1]) (rd5 r bad).2.1 (rd5 r bad).2.2) := ⟨t4, HII.out.yes hlt hb⟩
        clear t4 HRD hb
        go_wp2_with fail
        go_roundw
        case rel => exact ⟨j + 1, _, _, _, by go_num, by omega, by rw [List.length_append, hQl]; rfl, by omega, by omega, HR4⟩
        case measure => simp [intOf]; omega
      · have HF := Hid.mk (HN.out _ (HII.out.no hlt hQl hb) k4)
        clear k4 HRD hb
        go_wp2_with fail
        exact HF.out
    · obtain rfl : j = n := by omega
      have hdec := hI.fin hj64
      have HE := Hid.mk (st_end hS)
      clear hH hS hI
      cases hb : (!bad && r.isEmpty) with
      | true =>
        rw [hb] at HE hdec
        have HD : Hid (decQ l = some Q) := hdec
        clear hdec hb
        go_wp2_with fail
        refine HE.out.mono ?_
        rintro e w5 ⟨rfl, t5⟩
        have HF := Hid.mk (HY.out _ _ _ HD.out t5.isQ t5.k t5.newp)
        clear t5 HE
        go_wp2_with fail
        exact HF.out
      | false =>
        rw [hb] at HE hdec
        have HD : Hid (decQ l = none) := hdec
        clear hdec hb
        go_wp2_with fail
        refine HE.out.mono ?_
        rintro e w5 ⟨rfl, t5⟩
        have HF := Hid.mk (HN.out _ HD.out t5.k)
        clear t5 HE
        go_wp2_with fail
        exact HF.out
end
end Go.Proofs.Ytelmppfacgdfbaa
