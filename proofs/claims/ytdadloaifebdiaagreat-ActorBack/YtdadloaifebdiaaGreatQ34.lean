import Derived.Test.YtdadloaifebdiaaGreatQ03
import Derived.Test.YtdadloaifebdiaaGreatQ08
import Derived.Test.YtdadloaifebdiaaGreatQ11
import Derived.Test.YtdadloaifebdiaaGreatQ26
import Derived.Test.YtdadloaifebdiaaGreatQ32
import Derived.Test.YtdadloaifebdiaaGreatQ33
/-
  Decode of an outbox.
-/
namespace Go.Proofs.YtdadloaifebdiaaGreat
set_option maxRecDepth 100000
open Go.RowKit
set_option linter.unusedVariables false
theorem rkN_fwd {l r : List UInt8} {K : List La} (h : rkN l = some (K, r)) : Rise K ∧ (∀ y ∈ K, isKey y.k = true ∧ y.s ≠ 0 ∧ U64 y.s) ∧ K.length ≤ 64 ∧ r.length ≤ l.length := by
  unfold rkN at h
  cases hn : num l with
  | none => rw [hn] at h; cases h
  | some b =>
    obtain ⟨n, r1⟩ := b
    rw [hn] at h
    change (if 64 < n then none else rks n [] r1) = _ at h
    split at h
    · cases h
    · obtain ⟨X, x1, x2, x3, x4, x5⟩ := rks_fwd n [] r1 K r List.Pairwise.nil h
      rw [List.nil_append] at x2
      subst x2
      refine ⟨x4, x5, by omega, ?_⟩
      have := congrArg List.length (num_fwd hn)
      have := congrArg List.length x3
      simp only [List.length_append] at *
      omega
theorem decO_eq (l : List UInt8) : decO l = (txt l).bind fun a => if isKey a.1 = false then none else (rkN a.2).bind fun c => (rlN a.1 c.2).bind fun e => if e.2 = [] ∧ ordB c.1 e.1.reverse = true then some ⟨a.1, c.1, e.1⟩ else none := by
  unfold decO
  cases ht : txt l with
  | none => rfl
  | some a =>
    obtain ⟨own, l1⟩ := a
    dsimp only [Option.bind_some]
    cases hk : isKey own with
    | false =>
      rw [if_pos rfl]
      cases hn : num l1 with
      | none => rfl
      | some b =>
        dsimp only [Option.bind_some]
        rw [if_pos (.inl rfl)]
    | true =>
      rw [if_neg (by simp)]
      unfold rkN
      cases hn : num l1 with
      | none => rfl
      | some b =>
        obtain ⟨n, r1⟩ := b
        dsimp only [Option.bind_some]
        by_cases h64 : 64 < n
        · rw [if_pos (.inr h64), if_pos h64]; rfl
        · rw [if_neg (by rintro (h | h); cases h; exact h64 h), if_neg h64]
          cases hr : rks n [] r1 with
          | none => rfl
          | some c =>
            obtain ⟨K, r2⟩ := c
            have hrise := (rks_fwd n [] r1 K r2 List.Pairwise.nil hr)
            obtain ⟨X, -, -, -, x4, -⟩ := hrise
            dsimp only [Option.bind_some]
            unfold rlN
            cases hm : num r2 with
            | none => rfl
            | some d =>
              obtain ⟨m, r3⟩ := d
              dsimp only [Option.bind_some]
              by_cases h32 : 32 < m
              · rw [if_pos h32, if_pos h32]; rfl
              · rw [if_neg h32, if_neg h32, rls_rlp own K m [] r3 (by simp)]
                cases hp : rlp own m [] r3 with
                | none => rfl
                | some e =>
                  obtain ⟨L, r4⟩ := e
                  dsimp only [Option.bind_some]
                  rw [ordB_ord x4]
                  by_cases hall : ∀ y ∈ L, hasK K y.to = true
                  · rw [if_pos hall]
                    dsimp only [Option.bind_some]
                    rw [decide_eq_true hall, Bool.true_and]
                  · rw [if_neg hall]
                    have : decide (∀ y ∈ L, hasK K y.to = true) = false := by simpa using hall
                    rw [this]
                    simp
section
variable {w0 w w' : World} {p q : Nat} {own : List UInt8} {K : List La} {qs : List Yq} {l : List UInt8} {bad : Bool}
/-- What Decode answers. -/
def DecO (w : World) (l : List UInt8) (e : Ending) (w' : World) : Prop :=
  (decO l = none ∧ e = .returned (.tuple #[.pointer none, .int .i64 2]) ∧ Kept [] w w') ∨
  (∃ p o qs, decO l = some o ∧ e = .returned (.tuple #[.pointer (some ⟨p, 0, none⟩), .int .i64 0]) ∧ IsO w' p o.own o.K qs ∧ qs.map ot = o.L ∧ Kept [] w w' ∧ w.heap.size ≤ p)
set_option maxHeartbeats 1000000 in
theorem readW46_bad (h : St w0 w p q own K [] [] true) : Calls Tryz.prog 114 #[.pointer (some ⟨p, 0, none⟩), .pointer (some ⟨q, 0, none⟩)] w fun e w' => e = .returned (.bool true) ∧ St w0 w' p q own K [] [] true := by
  have hA := st_num h
  rw [rnum_bad2] at hA
  have HA := Hid.mk hA
  clear h hA
  go_enter Tryz.func114, Tryz.ntmps114
  go_wp2_with fail
  refine HA.out.mono ?_
  rintro e w1 ⟨rfl, h1, -⟩
  have HS := Hid.mk h1
  clear h1 HA
  dsimp only
  go_wp2_with fail
  go_loopw [14] (fun i wr => i = .int .u64 0 ∧ Hid (St w0 wr p q own K [] [] true)) (fun _ _ => 0)
  case atStart => exact ⟨rfl, HS⟩
  case round =>
    obtain ⟨rfl, hS⟩ := hrel
    go_wp2_with fail
    go_ret
    exact ⟨rfl, hS.out⟩
theorem St.left (h : St w0 w p q own K qs l true) : l = [] := by
  obtain ⟨v, h1, -⟩ := h.rd
  exact h1.none rfl
theorem st_end (h : St w0 w p q own K qs l bad) : Calls Tryz.prog 19 #[.pointer (some ⟨q, 0, none⟩)] w fun e w' => e = .returned (.bool (!bad && l.isEmpty)) ∧ w = w' := by
  obtain ⟨v, h1, -⟩ := h.rd
  exact end_any q v l bad w h1
set_option maxHeartbeats 4000000 in
theorem decode16 (v : Value) (l : List UInt8) (hr : Reads w v l) (hl : l.length ≤ 140737488355328) : Calls Tryz.prog 75 #[v] w fun e w' => DecO w l e w' := by
  have HN : Hid (∀ W, decO l = none → Kept [] w W → DecO w l (.returned (.tuple #[.pointer none, .int .i64 2])) W) := fun W h k => .inl ⟨h, rfl, k⟩
  have HY : Hid (∀ W p o qs, decO l = some o → IsO W p o.own o.K qs → qs.map ot = o.L → Kept [] w W → w.heap.size ≤ p → DecO w l (.returned (.tuple #[.pointer (some ⟨p, 0, none⟩), .int .i64 0])) W) := fun W p o qs h1 h2 h3 h4 h5 => .inr ⟨p, o, qs, h1, rfl, h2, h3, h4, h5⟩
  generalize DecO w l = R at HN HY
  have HR := Hid.mk hr
  clear hr
  go_enter Tryz.func75, Tryz.ntmps75
  go_wp2_with fail
  refine (newr_in v l w HR.out hl).mono ?_
  rintro e w1 ⟨q, v1, rfl, hR1, k1, hf1, hq1, hin1⟩
  have HT := Hid.mk (rtext_any q v1 l false w1 hR1)
  clear hR1
  go_wp2_with fail
  refine HT.out.mono ?_
  rintro e w2 ⟨rfl, v2, hR2, k2, hi2⟩
  have k02 : Kept [] w w2 := k1.trans k2 (fun x hx => by simp at hx; subst hx; exact .inr hq1)
  have hkl := (rtext_rest l false).1
  have hrl := (rtext_rest l false).2
  clear HT
  cases ht : txt l with
  | none =>
    have HO : Hid (decO l = none) := by show _ = _; rw [decO_eq, ht]; rfl
    rw [txt_none ht]
    have H11 := Hid.mk (new11_no (w := w2) [] rfl (by simp))
    have HS := Hid.mk (HN.out _ HO.out k02)
    clear HN HY HO ht hR2 k2
    dsimp only
    go_wp2_with fail
    refine H11.out.mono ?_
    rintro e w3 ⟨rfl, rfl⟩
    go_wp2_with fail
    exact HS.out
  | some a =>
    obtain ⟨own, r⟩ := a
    have HDE : Hid (decO l = if isKey own = false then none else (rkN r).bind fun c => (rlN own c.2).bind fun e => if e.2 = [] ∧ ordB c.1 e.1.reverse = true then some ⟨own, c.1, e.1⟩ else none) := by show _ = _; rw [decO_eq, ht]; rfl
    rw [txt_some ht] at hR2 hkl hrl ⊢
    dsimp only at hR2 hkl hrl
    clear ht
    cases hk : isKey own with
    | false =>
      have HO : Hid (decO l = none) := by show _ = _; rw [HDE.out, if_pos hk]
      have H11 := Hid.mk (new11_no (w := w2) own hk (by omega))
      have HS := Hid.mk (HN.out _ HO.out k02)
      clear HN HY HO hR2 k2 hk HDE
      dsimp only
      go_wp2_with fail
      refine H11.out.mono ?_
      rintro e w3 ⟨rfl, rfl⟩
      go_wp2_with fail
      exact HS.out
    | true =>
      rw [hk] at HDE
      have HDE2 : Hid (decO l = (rkN r).bind fun c => (rlN own c.2).bind fun e => if e.2 = [] ∧ ordB c.1 e.1.reverse = true then some ⟨own, c.1, e.1⟩ else none) := by show _ = _; rw [HDE.out, if_neg (by simp)]
      have H11 := Hid.mk (new11 (w := w2) own hk)
      have hR2' := Hid.mk hR2
      have hql : q < w2.heap.size := hR2.lt
      have hin2 : ∀ g, v2.ownBlock = some g → g < w2.heap.size := fun g hg => by have := hin1 g (hi2 g hg); have := k2.size; omega
      have hw12 := k1.size
      clear hR2 hk HDE
      dsimp only
      go_wp2_with fail
      refine H11.out.mono ?_
      rintro e w3 ⟨p, rfl, hO3, k3, hp3⟩
      have hwp : w.heap.size ≤ p := by have := k02.size; omega
      have h3 : St w w3 p q own [] [] r false := ⟨hO3, ⟨v2, hR2'.out.kept k3 (by simp) (by simp), fun e => by have := hin2 p e; omega⟩, hq1, hwp, k02.trans k3 (by simp)⟩
      have H45 := Hid.mk (readT45 h3 (by omega))
      clear h3 hO3 k3 H11 hR2' k2 k1 hi2 hin1 hin2
      go_wp2_with fail
      refine H45.out.mono ?_
      rintro e w4 (⟨K, r2, hrk, rfl, h4⟩ | ⟨hrk, b4, K, r2, bad4, rfl, h4, hb4⟩)
      · obtain ⟨hri, hkeys, hK64, hr2l⟩ := rkN_fwd hrk
        have HDE3 : Hid (decO l = (rlN own r2).bind fun e => if e.2 = [] ∧ ordB K e.1.reverse = true then some ⟨own, K, e.1⟩ else none) := by show _ = _; rw [HDE2.out, hrk]; rfl
        have H46 := Hid.mk (readW46 h4 (by omega))
        clear h4 hrk HDE2 H45
        go_wp2_with fail
        refine H46.out.mono ?_
        rintro e w5 (⟨qs, r3, hrl3, rfl, h5⟩ | ⟨hrl3, b5, qs, r3, bad5, rfl, h5, hb5⟩)
        · have HDE4 : Hid (decO l = if r3 = [] ∧ ordB K (qs.map ot).reverse = true then some ⟨own, K, qs.map ot⟩ else none) := by show _ = _; rw [HDE3.out, hrl3]; rfl
          have H47 := Hid.mk (st_end h5)
          have H5 := Hid.mk h5
          clear h5 hrl3 HDE3 H46
          go_wp2_with fail
          refine H47.out.mono ?_
          rintro e w6 ⟨rfl, rfl⟩
          cases hre : r3 with
          | cons c r4 =>
            have HO : Hid (decO l = none) := by show _ = _; rw [HDE4.out, if_neg]; rintro ⟨h, -⟩; rw [hre] at h; cases h
            have HS := Hid.mk (HN.out _ HO.out H5.out.k)
            have e7 : (!false && (c :: r4).isEmpty) = false := rfl
            rw [e7]
            clear HN HY HO H5 HDE4 hre H47
            go_wp2_with fail
            exact HS.out
          | nil =>
            have e7 : (!false && ([] : List UInt8).isEmpty) = true := rfl
            rw [e7]
            have H48 := Hid.mk (inOrder48 H5.out.isO hri (fun y hy => (hkeys y hy).2.2))
            subst hre
            clear H47
            go_wp2_with fail
            refine H48.out.mono ?_
            rintro e w7 ⟨rfl, k7⟩
            have h7 := H5.out.kept0 k7
            cases hor : ordB K (qs.map ot).reverse with
            | false =>
              have HO : Hid (decO l = none) := by show _ = _; rw [HDE4.out, if_neg]; rintro ⟨-, h⟩; rw [hor] at h; cases h
              have HS := Hid.mk (HN.out _ HO.out h7.k)
              clear HN HY HO H5 HDE4 hor H48 h7
              go_wp2_with fail
              exact HS.out
            | true =>
              have HO : Hid (decO l = some ⟨own, K, qs.map ot⟩) := by show _ = _; rw [HDE4.out, if_pos (by first | exact ⟨rfl, hor⟩ | exact ⟨trivial, hor⟩)]
              have HS := Hid.mk (HY.out _ p ⟨own, K, qs.map ot⟩ qs HO.out h7.isO rfl h7.k hwp)
              clear HN HY HO H5 HDE4 hor H48 h7
              go_wp2_with fail
              exact HS.out
        · have HO : Hid (decO l = none) := by show _ = _; rw [HDE3.out, hrl3]; rfl
          cases b5 with
          | false =>
            have HS := Hid.mk (HN.out _ HO.out h5.k)
            clear HN HY HO h5 HDE3 hrl3 H46 hb5
            go_wp2_with fail
            exact HS.out
          | true =>
            obtain rfl := hb5 rfl
            have H47 := Hid.mk (st_end h5)
            have HS := Hid.mk (HN.out _ HO.out h5.k)
            have e7 : (!true && r3.isEmpty) = false := rfl
            rw [e7] at H47
            clear HN HY HO h5 HDE3 hrl3 H46 hb5 e7
            go_wp2_with fail
            refine H47.out.mono ?_
            rintro e w6 ⟨rfl, rfl⟩
            go_wp2_with fail
            exact HS.out
      · have HO : Hid (decO l = none) := by show _ = _; rw [HDE2.out, hrk]; rfl
        cases b4 with
        | false =>
          have HS := Hid.mk (HN.out _ HO.out h4.k)
          clear HN HY HO h4 HDE2 hrk H45 hb4
          go_wp2_with fail
          exact HS.out
        | true =>
          obtain rfl := hb4 rfl
          obtain rfl := h4.left
          have H46 := Hid.mk (readW46_bad h4)
          clear h4 HDE2 hrk H45 hb4
          go_wp2_with fail
          refine H46.out.mono ?_
          rintro e w5 ⟨rfl, h5⟩
          have H47 := Hid.mk (st_end h5)
          have HS := Hid.mk (HN.out _ HO.out h5.k)
          have e7 : (!true && ([] : List UInt8).isEmpty) = false := rfl
          rw [e7] at H47
          clear HN HY HO h5 H46 e7
          go_wp2_with fail
          refine H47.out.mono ?_
          rintro e w6 ⟨rfl, rfl⟩
          go_wp2_with fail
          exact HS.out
end
end Go.Proofs.YtdadloaifebdiaaGreat
/-
  What the bytes that are still to be read make of a journal; without memory.
-/
namespace Go.Proofs.YtdadloaifebdiaaGreat
set_option linter.unusedVariables false
theorem rnum_true (l : List UInt8) : (rnum l true).2.2 = true := by
  unfold rnum
  split <;> rfl
theorem int_bad {l : List UInt8} (h : int l = none) : rnum l false = (0, [], true) := num_none (int_none h)
/-- What is behind the base. -/
def contJ (ver : Nat) (base : List Int) (r : List UInt8) : Option Jn := (num r).bind fun c => if 16 < c.1 ∨ ver < c.1 then none else (revs c.1 [] c.2).bind fun d => if d.2 = [] then some ⟨base, d.1, ver⟩ else none
/-- After k registers, A, the bytes r are left. -/
def AInv (l : List UInt8) (ver k : Nat) (A : List Int) (r : List UInt8) (bad : Bool) : Prop :=
  (bad = true → decJn l = none) ∧ (bad = false → decJn l = (rint (8 - k) r).bind fun b => contJ ver (A ++ b.1) b.2)
theorem AInv.start (l : List UInt8) : AInv l (rnum l false).1 0 [] (rnum l false).2.1 (rnum l false).2.2 := by
  cases h : num l with
  | none =>
    rw [num_none h]
    refine ⟨fun _ => ?_, (fun h => by cases h)⟩
    unfold decJn
    rw [h]
    rfl
  | some a =>
    obtain ⟨n, r⟩ := a
    rw [num_some h]
    refine ⟨(fun h => by cases h), fun _ => ?_⟩
    unfold decJn contJ
    rw [h]
    rfl
theorem AInv.step {l : List UInt8} {ver k : Nat} {A : List Int} {r : List UInt8} {bad : Bool} (h : AInv l ver k A r bad) (hk : k < 8) : AInv l ver (k + 1) (A ++ [unfold (rnum r bad).1]) (rnum r bad).2.1 (rnum r bad).2.2 := by
  cases bad with
  | true => exact ⟨fun _ => h.1 rfl, fun e => by rw [rnum_true] at e; cases e⟩
  | false =>
    have h2 := h.2 rfl
    rw [show 8 - k = (8 - (k + 1)) + 1 by omega, rint] at h2
    cases hi : int r with
    | none =>
      rw [int_bad hi]
      rw [hi] at h2
      exact ⟨fun _ => h2, (fun e => by cases e)⟩
    | some x =>
      obtain ⟨z, r'⟩ := x
      obtain ⟨e1, e2, -⟩ := int_some hi
      rw [e1]
      dsimp only
      rw [e2]
      refine ⟨(fun e => by cases e), fun _ => ?_⟩
      rw [hi] at h2
      rw [h2]
      dsimp only [Option.bind_some]
      cases rint (8 - (k + 1)) r' with
      | none => rfl
      | some b => simp
/-- After k events, E, of n, the bytes r are left. -/
def BInv (l : List UInt8) (ver : Nat) (A : List Int) (n k : Nat) (E : List Ev) (r : List UInt8) (bad : Bool) : Prop :=
  (bad = true → decJn l = none) ∧ (bad = false → ((16 < n ∨ ver < n) → decJn l = none) ∧ (¬ (16 < n ∨ ver < n) → decJn l = (revs (n - k) E r).bind fun d => if d.2 = [] then some ⟨A, d.1, ver⟩ else none))
theorem BInv.start {l : List UInt8} {ver : Nat} {A : List Int} {r : List UInt8} {bad : Bool} (h : AInv l ver 8 A r bad) : BInv l ver A (rnum r bad).1 0 [] (rnum r bad).2.1 (rnum r bad).2.2 := by
  cases bad with
  | true => exact ⟨fun _ => h.1 rfl, fun e => by rw [rnum_true] at e; cases e⟩
  | false =>
    have h2 := h.2 rfl
    rw [Nat.sub_self, rint] at h2
    dsimp only [Option.bind_some] at h2
    rw [List.append_nil] at h2
    unfold contJ at h2
    cases hi : num r with
    | none =>
      rw [num_none hi]
      rw [hi] at h2
      exact ⟨fun _ => h2, (fun e => by cases e)⟩
    | some x =>
      obtain ⟨n, r'⟩ := x
      rw [num_some hi]
      rw [hi] at h2
      dsimp only [Option.bind_some] at h2
      refine ⟨(fun e => by cases e), fun _ => ⟨fun hb => ?_, fun hb => ?_⟩⟩
      · rw [h2, if_pos hb]
      · rw [h2, if_neg hb]
        rfl
theorem BInv.big {l : List UInt8} {ver : Nat} {A : List Int} {n k : Nat} {E : List Ev} {r : List UInt8} {bad : Bool} (h : BInv l ver A n k E r bad) (hb : 16 < n ∨ ver < n) : decJn l = none := by
  cases bad with
  | true => exact h.1 rfl
  | false => exact (h.2 rfl).1 hb
/-- The register of the next event is none. -/
theorem BInv.no {l : List UInt8} {ver : Nat} {A : List Int} {n k : Nat} {E : List Ev} {r : List UInt8} {bad : Bool} (h : BInv l ver A n k E r bad) (hk : k < n) (hs : ¬ (16 < n ∨ ver < n)) (h7 : 7 < (rnum r bad).1) : decJn l = none := by
  cases bad with
  | true => exact h.1 rfl
  | false =>
    have h2 := (h.2 rfl).2 hs
    rw [show n - k = (n - (k + 1)) + 1 by omega, revs] at h2
    cases hi : num r with
    | none => rw [num_none hi] at h7; exact absurd h7 (by decide)
    | some x =>
      obtain ⟨m, r'⟩ := x
      rw [num_some hi] at h7
      rw [hi] at h2
      dsimp only [Option.bind_some] at h2 h7
      rw [h2]
      cases int r' with
      | none => rfl
      | some y =>
        dsimp only [Option.bind_some]
        rw [if_pos h7]
        rfl
/-- One event more. -/
theorem BInv.yes {l : List UInt8} {ver : Nat} {A : List Int} {n k : Nat} {E : List Ev} {r : List UInt8} {bad : Bool} (h : BInv l ver A n k E r bad) (hk : k < n) (h7 : ¬ 7 < (rnum r bad).1) : BInv l ver A n (k + 1) (E ++ [⟨(rnum r bad).1, unfold (rnum (rnum r bad).2.1 (rnum r bad).2.2).1⟩]) (rnum (rnum r bad).2.1 (rnum r bad).2.2).2.1 (rnum (rnum r bad).2.1 (rnum r bad).2.2).2.2 := by
  cases bad with
  | true => exact ⟨fun _ => h.1 rfl, fun e => by rw [rnum_true, rnum_true] at e; cases e⟩
  | false =>
    obtain ⟨h1, h2⟩ := h.2 rfl
    rw [show n - k = (n - (k + 1)) + 1 by omega, revs] at h2
    cases hi : num r with
    | none =>
      rw [num_none hi]
      refine ⟨fun _ => ?_, (fun e => by dsimp only at e; rw [rnum_true] at e; cases e)⟩
      by_cases hs : 16 < n ∨ ver < n
      · exact h1 hs
      · rw [h2 hs, hi]
        rfl
    | some x =>
      obtain ⟨m, r'⟩ := x
      rw [num_some hi] at h7 ⊢
      dsimp only at h7 ⊢
      cases hj : int r' with
      | none =>
        rw [int_bad hj]
        refine ⟨fun _ => ?_, (fun e => by cases e)⟩
        by_cases hs : 16 < n ∨ ver < n
        · exact h1 hs
        · rw [h2 hs, hi]
          dsimp only [Option.bind_some]
          rw [hj]
          rfl
      | some y =>
        obtain ⟨z, r2⟩ := y
        obtain ⟨e1, e2, -⟩ := int_some hj
        rw [e1]
        dsimp only
        rw [e2]
        refine ⟨(fun e => by cases e), fun _ => ⟨h1, fun hs => ?_⟩⟩
        rw [h2 hs, hi]
        dsimp only [Option.bind_some]
        rw [hj]
        dsimp only [Option.bind_some]
        rw [if_neg h7]
theorem BInv.fin {l : List UInt8} {ver : Nat} {A : List Int} {n : Nat} {E : List Ev} {r : List UInt8} {bad : Bool} (h : BInv l ver A n n E r bad) (hs : ¬ (16 < n ∨ ver < n)) : decJn l = if (!bad && r.isEmpty) = true then some ⟨A, E, ver⟩ else none := by
  cases bad with
  | true => rw [h.1 rfl]; rfl
  | false =>
    rw [(h.2 rfl).2 hs, Nat.sub_self, revs]
    cases r with
    | nil => rfl
    | cons a r => rfl
/-- Eight places, the first ones filled. -/
def padA (A : List Int) : List Int := A ++ List.replicate (8 - A.length) 0
theorem padA_length {A : List Int} (h : A.length ≤ 8) : (padA A).length = 8 := by simp [padA]; omega
theorem padA_full {A : List Int} (h : A.length = 8) : padA A = A := by simp [padA, h]
theorem padA_more {A : List Int} (h : A.length < 8) (x : Int) : (padA A).set A.length x = padA (A ++ [x]) := by
  have e1 : padA A = A ++ (0 :: List.replicate (8 - (A.length + 1)) 0) := by rw [padA, show 8 - A.length = (8 - (A.length + 1)) + 1 by omega, List.replicate_succ]
  rw [e1, List.set_append_right _ _ (Nat.le_refl _), Nat.sub_self, List.set_cons_zero, padA, List.length_append]
  simp
end Go.Proofs.YtdadloaifebdiaaGreat
/-
  Decode of a journal.
-/
namespace Go.Proofs.YtdadloaifebdiaaGreat
set_option maxRecDepth 100000
open Go.RowKit
set_option linter.unusedVariables false
/-- A journal's parts at p and a Reader at q. -/
structure St_J (w0 w : World) (p q : Nat) (A : List Int) (E : List Ep) (n : Int) (v : Nat) (l : List UInt8) (bad : Bool) : Prop where
  isP : IsP w p A E n v
  rd : ∃ x, IsR 122 w q x l bad ∧ x.ownBlock ≠ some p
  new : w0.heap.size ≤ q
  newp : w0.heap.size ≤ p
  k : Kept [] w0 w
section
variable {w0 w w' : World} {p q : Nat} {A : List Int} {E : List Ep} {n : Int} {v : Nat} {l : List UInt8} {bad : Bool}
theorem St_J.ne (h : St_J w0 w p q A E n v l bad) : p ≠ q := fun e => by
  obtain ⟨x, h1, -⟩ := h.rd
  exact box_ne h.isP.box h1.box (by decide) e
theorem St_J.kept0 (h : St_J w0 w p q A E n v l bad) (k : Kept [] w w') : St_J w0 w' p q A E n v l bad := by
  obtain ⟨x, h1, h2⟩ := h.rd
  exact ⟨h.isP.kept0 k, ⟨x, h1.kept k (by simp) (by simp), h2⟩, h.new, h.newp, h.k.trans k (by simp)⟩
theorem St_J.read (h : St_J w0 w p q A E n v l bad) {l' : List UInt8} {bad' : Bool} {x x' : Value} (h1 : IsR 122 w q x l bad) (h2 : x.ownBlock ≠ some p) (i1 : IsR 122 w' q x' l' bad') (i2 : Kept [q] w w') (i3 : ∀ g, x'.ownBlock = some g → x.ownBlock = some g) : St_J w0 w' p q A E n v l' bad' :=
  ⟨h.isP.kept i2 (by simp; exact h.ne), ⟨x', i1, fun e => h2 (i3 p e)⟩, h.new, h.newp, h.k.trans i2 (fun y hy => by simp at hy; subst hy; exact .inr h.new)⟩
theorem st_num_J (h : St_J w0 w p q A E n v l bad) : Calls Tryz.prog 17 #[.pointer (some ⟨q, 0, none⟩)] w fun e w' => e = .returned (.int .u64 ((rnum l bad).1 : Int)) ∧ St_J w0 w' p q A E n v (rnum l bad).2.1 (rnum l bad).2.2 := by
  obtain ⟨x, h1, h2⟩ := h.rd
  refine (rnum_any q x l bad w h1).mono ?_
  rintro e w' ⟨rfl, x', i1, i2, i3⟩
  exact ⟨rfl, h.read h1 h2 i1 i2 i3⟩
theorem st_int (h : St_J w0 w p q A E n v l bad) : Calls Tryz.prog 112 #[.pointer (some ⟨q, 0, none⟩)] w fun e w' => e = .returned (Iv (unfold (rnum l bad).1)) ∧ St_J w0 w' p q A E n v (rnum l bad).2.1 (rnum l bad).2.2 := by
  obtain ⟨x, h1, h2⟩ := h.rd
  refine (rint_any q x l bad w h1).mono ?_
  rintro e w' ⟨rfl, x', i1, i2, i3⟩
  exact ⟨rfl, h.read h1 h2 i1 i2 i3⟩
theorem st_end_J (h : St_J w0 w p q A E n v l bad) : Calls Tryz.prog 19 #[.pointer (some ⟨q, 0, none⟩)] w fun e w' => e = .returned (.bool (!bad && l.isEmpty)) ∧ St_J w0 w' p q A E n v l bad := by
  obtain ⟨x, h1, h2⟩ := h.rd
  refine (end_any q x l bad w h1).mono ?_
  rintro e w' ⟨rfl, rfl⟩
  exact ⟨rfl, h⟩
theorem St_J.stored (h : St_J w0 w p q A E n v l bad) {A' : List Int} {E' : List Ep} {n' : Int} {v' : Nat} (hP : IsP w' p A' E' n' v') (k : Kept [p] w w') : St_J w0 w' p q A' E' n' v' l bad := by
  obtain ⟨x, h1, h2⟩ := h.rd
  exact ⟨hP, ⟨x, h1.kept k (by simp; exact fun e => h.ne e.symm) (fun g hg hm => by simp at hm; subst hm; exact h2 hg), h2⟩, h.new, h.newp, h.k.trans k (fun y hy => by simp at hy; subst hy; exact .inr h.newp)⟩
end
/-- What Decode answers and leaves. -/
def DecR (w : World) (l : List UInt8) (e : Ending) (w' : World) : Prop :=
  (decJn l = none ∧ e = .returned (.tuple #[.pointer none, Iv 2]) ∧ Kept [] w w') ∨ ∃ p j, decJn l = some j ∧ e = .returned (.tuple #[.pointer (some ⟨p, 0, none⟩), Iv 0]) ∧ IsJ w' p j ∧ Kept [] w w' ∧ w.heap.size ≤ p
section
variable {w : World}
set_option maxHeartbeats 4000000 in
theorem decode23 (v : Value) (l : List UInt8) (hr : Reads w v l) (hl : l.length ≤ 140737488355328) : Calls Tryz.prog 72 #[v] w fun e w' => DecR w l e w' := by
  have HN : Hid (∀ W, decJn l = none → Kept [] w W → DecR w l (.returned (.tuple #[.pointer none, Iv 2])) W) := fun W h k => .inl ⟨h, rfl, k⟩
  have HY : Hid (∀ W p j, decJn l = some j → IsJ W p j → Kept [] w W → w.heap.size ≤ p → DecR w l (.returned (.tuple #[.pointer (some ⟨p, 0, none⟩), Iv 0])) W) := fun W p j h1 h2 h3 h4 => .inr ⟨p, j, h1, rfl, h2, h3, h4⟩
  generalize DecR w l = R at HN HY ⊢
  have HR := Hid.mk hr
  clear hr
  go_enter Tryz.func72, Tryz.ntmps72
  go_wp2_with fail
  refine (newr_in v l w HR.out hl).mono ?_
  rintro e w1 ⟨q, v1, rfl, hR1, k1, hf1, hq1, hin1⟩
  have H1 := Hid.mk hR1
  have hql := hR1.lt
  clear hR1
  go_wp2_with fail
  refine (new11_J (w := w1)).mono ?_
  rintro e w2 ⟨p, rfl, hJ2, k2, hp2⟩
  have hwp : w.heap.size ≤ p := by have := k1.size; omega
  have h2 : St_J w w2 p q (padA []) (padE []) 0 0 l false := ⟨hJ2.isP, ⟨v1, H1.out.kept k2 (by simp) (by simp), fun e => by have := hin1 p e; omega⟩, hq1, hwp, k1.trans k2 (by simp)⟩
  have H3 := Hid.mk (st_num_J h2)
  clear h2 hJ2 k2 k1 H1 hin1
  go_wp2_with fail
  refine H3.out.mono ?_
  rintro e w3 ⟨rfl, t3⟩
  have HI := Hid.mk (AInv.start l)
  have hv64 := rnum_lt l false
  obtain ⟨⟨ver, r0, b0⟩, hx⟩ : ∃ x, rnum l false = x := ⟨_, rfl⟩
  rw [hx] at t3 HI hv64 ⊢
  dsimp only at t3 HI hv64 ⊢
  have c3 := t3.isP.ver
  have f3 := t3.isP.free 41
  have HT4 : Hid (St_J w (w3.setCell ⟨p, 41, none⟩ (.int .u64 (ver : Int))) p q (padA []) (padE []) 0 ver r0 b0) := t3.stored (t3.isP.setv ver) ((Kept.refl [p] w3).setCell (p := ⟨p, 41, none⟩) (.inl (by simp)) _)
  clear t3 H3 hx
  go_wp2_with fail
  clear c3 f3
  go_loopw [17] (fun i wr => ∃ (k : Nat) (A : List Int) (r : List UInt8) (bad : Bool), i = .int .i64 (k : Int) ∧ k ≤ 8 ∧ A.length = k ∧ Hid (St_J w wr p q (padA A) (padE []) 0 ver r bad ∧ AInv l ver k A r bad)) (fun i _ => 8 - (intOf i).toNat)
  case atStart => exact ⟨0, [], r0, b0, rfl, by omega, rfl, Hid.mk ⟨HT4.out, HI.out⟩⟩
  case round =>
    clear HT4 HI
    obtain ⟨k, A, r, bad, rfl, hk, hAl, hH⟩ := hrel
    obtain ⟨hS, hI⟩ := hH.out
    by_cases hlt : k < 8
    · have hkI : (k : Int) < 8 := by omega
      have hk0 : (0 : Int) ≤ (k : Int) := by omega
      have HC := Hid.mk (st_int (hS.kept0 (Kept.refl [] wr).drew))
      have HII := Hid.mk (hI.step hlt)
      obtain ⟨⟨x, r2, b2⟩, hx⟩ : ∃ x, rnum r bad = x := ⟨_, rfl⟩
      rw [hx] at HC HII
      dsimp only at HC HII
      generalize unfold x = z at *
      have HST : Hid (∀ W, St_J w W p q (padA A) (padE []) 0 ver r2 b2 → (∃ y, W.cell? ⟨p, k, none⟩ = some (Iv y)) ∧ W.frozen? ⟨p, k, none⟩ = false ∧ St_J w (W.setCell ⟨p, k, none⟩ (Iv z)) p q (padA (A ++ [z])) (padE []) 0 ver r2 b2) := fun W h => by
        have h1 := h.isP.setA (i := k) hlt z
        rw [← hAl, padA_more (by omega) z] at h1
        refine ⟨⟨_, h.isP.cellA (List.getElem?_eq_getElem (i := k) (by rw [h.isP.a8]; exact hlt))⟩, h.isP.free _, ?_⟩
        rw [← hAl]
        exact h.stored h1 ((Kept.refl [p] W).setCell (p := ⟨p, A.length, none⟩) (.inl (by simp)) _)
      clear hH hS hI hx
      go_wp2_with fail
      go_region_held3 (fun V => True) (trivial) (first | (go_at_call 112; refine HC.out.mono ?_; rintro e w4 ⟨rfl, t4⟩; obtain ⟨⟨y4, c4⟩, f4, t5⟩ := HST.out w4 t4; have HT5 := Hid.mk t5; clear t4 t5))
      clear c4 f4 HC HST
      have HR5 : Hid (St_J w (w4.setCell ⟨p, k, none⟩ (Iv z)) p q (padA (A ++ [z])) (padE []) 0 ver r2 b2 ∧ AInv l ver (k + 1) (A ++ [z]) r2 b2) := ⟨HT5.out, HII.out⟩
      go_wp2_with fail
      go_roundw
      case rel => exact ⟨k + 1, _, _, _, by go_num, by omega, by rw [List.length_append, hAl]; rfl, HR5⟩
      case measure => simp [intOf]; omega
    · obtain rfl : k = 8 := by omega
      have HC := Hid.mk (st_num_J hS)
      have HII := Hid.mk (BInv.start hI)
      have hn64 := rnum_lt r bad
      obtain ⟨⟨n, r2, b2⟩, hx⟩ : ∃ x, rnum r bad = x := ⟨_, rfl⟩
      rw [hx] at HC HII hn64
      rw [padA_full hAl] at HC
      dsimp only at HC HII hn64
      clear hH hS hI hx
      go_wp2_with fail
      refine HC.out.mono ?_
      rintro e w5 ⟨rfl, t5⟩
      have c5 := t5.isP.ver
      have HT5 := Hid.mk t5
      clear t5 HC
      by_cases hbig : 16 < n ∨ ver < n
      · have hmin : min (16 : Int) (ver : Int) < (n : Int) := by omega
        have HF := Hid.mk (HN.out _ (HII.out.big hbig) HT5.out.k)
        clear hbig
        go_wp2_with fail
        exact HF.out
      · have hmin : ¬ min (16 : Int) (ver : Int) < (n : Int) := by omega
        have hn16 : n ≤ 16 := by omega
        have HBG := Hid.mk hbig
        clear hbig
        go_wp2_with fail
        clear c5 hmin
        go_loopw [38] (fun i wr => ∃ (k : Nat) (E : List Ev) (r : List UInt8) (bad : Bool), i = .int .u64 (k : Int) ∧ k ≤ n ∧ E.length = k ∧ Hid (St_J w wr p q A (padE E) (E.length : Int) ver r bad ∧ BInv l ver A n k E r bad ∧ ∀ e ∈ E, e.r ≤ 7)) (fun i _ => n - (intOf i).toNat)
        case atStart => exact ⟨0, [], r2, b2, rfl, by omega, rfl, Hid.mk ⟨HT5.out, HII.out, by simp⟩⟩
        case round =>
          clear HT5 HII
          obtain ⟨k, E, r, bad, rfl, hk2, hEl, hH⟩ := hrel
          obtain ⟨hS, hI, hE7⟩ := hH.out
          by_cases hlt2 : k < n
          · have hkI2 : (k : Int) < (n : Int) := by omega
            have HC := Hid.mk (st_num_J hS)
            have HNO : Hid (7 < (rnum r bad).1 → decJn l = none) := fun h => hI.no hlt2 HBG.out h
            have HYS : Hid (¬ 7 < (rnum r bad).1 → BInv l ver A n (k + 1) (E ++ [⟨(rnum r bad).1, unfold (rnum (rnum r bad).2.1 (rnum r bad).2.2).1⟩]) (rnum (rnum r bad).2.1 (rnum r bad).2.2).2.1 (rnum (rnum r bad).2.1 (rnum r bad).2.2).2.2) := fun h => hI.yes hlt2 h
            have hx64 := rnum_lt r bad
            obtain ⟨⟨x, r3, b3⟩, hx⟩ : ∃ x, rnum r bad = x := ⟨_, rfl⟩
            rw [hx] at HC HNO HYS hx64
            dsimp only at HC HNO HYS hx64
            have HE7 := Hid.mk hE7
            have HEL := Hid.mk hEl
            clear hH hS hI hx hE7 hEl
            go_wp2_with fail
            refine HC.out.mono ?_
            rintro e w6 ⟨rfl, t6⟩
            clear HC
            by_cases h7 : 7 < x
            · have h7I : (8 : Int) ≤ (x : Int) := by omega
              have HF := Hid.mk (HN.out _ (HNO.out h7) t6.k)
              clear t6
              go_wp2_with fail
              exact HF.out
            · have h7I : ¬ (8 : Int) ≤ (x : Int) := by omega
              have HB := Hid.mk (HYS.out h7)
              have HC := Hid.mk (st_int t6)
              obtain ⟨⟨y, r4, b4⟩, hy⟩ : ∃ x, rnum r3 b3 = x := ⟨_, rfl⟩
              rw [hy] at HC HB
              dsimp only at HC HB
              generalize unfold y = z at *
              have hw : IntKind.i64.wrap (x : Int) = (x : Int) := by rw [IntKind.wrap_i64]; omega
              clear t6 HNO HYS hy
              go_wp2_with fail
              refine HC.out.mono ?_
              rintro e w7 ⟨rfl, t7⟩
              have hJ7 : IsJ w7 p ⟨A, E, ver⟩ := ⟨t7.isP, by show E.length ≤ 16; have := HEL.out; omega⟩
              have HP := Hid.mk (push28 hJ7 HE7.out ⟨x, z⟩)
              rw [pushJ_few (by show E.length < 16; have := HEL.out; omega)] at HP
              have HS : Hid (∀ w8, IsJ w8 p ⟨A, E ++ [(⟨x, z⟩ : Ev)], ver⟩ → Kept [p] w7 w8 → St_J w w8 p q A (padE (E ++ [(⟨x, z⟩ : Ev)])) ((E ++ [(⟨x, z⟩ : Ev)]).length : Int) ver r4 b4) := fun w8 h1 h2 => t7.stored h1.isP h2
              have HP2 : Hid (Calls Tryz.prog 107 #[.pointer (some ⟨p, 0, none⟩), .agg #[Iv (x : Int), Iv z]] w7 fun e w' => e = .returned (.tuple #[]) ∧ IsJ w' p ⟨A, E ++ [(⟨x, z⟩ : Ev)], ver⟩ ∧ Kept [p] w7 w') := HP.out
              clear t7 hJ7 HC HP
              go_wp2_with fail
              refine HP2.out.mono ?_
              rintro e w8 ⟨rfl, h8, k8⟩
              have HR8 : Hid (St_J w w8 p q A (padE (E ++ [(⟨x, z⟩ : Ev)])) ((E ++ [(⟨x, z⟩ : Ev)]).length : Int) ver r4 b4 ∧ BInv l ver A n (k + 1) (E ++ [(⟨x, z⟩ : Ev)]) r4 b4 ∧ ∀ e ∈ E ++ [(⟨x, z⟩ : Ev)], e.r ≤ 7) := ⟨HS.out w8 h8 k8, HB.out, fun e he => by
                rcases List.mem_append.1 he with h | h
                · exact HE7.out e h
                · simp at h; subst h; show x ≤ 7; omega⟩
              clear h8 k8 HP2 HS HB
              go_wp2_with fail
              go_roundw
              case rel => exact ⟨k + 1, E ++ [(⟨x, z⟩ : Ev)], r4, b4, by go_num, by omega, by rw [List.length_append, HEL.out]; rfl, HR8⟩
              case measure => simp [intOf]; omega
          · obtain rfl : k = n := by omega
            have hdec := hI.fin HBG.out
            have HE := Hid.mk (st_end_J hS)
            have HEL := Hid.mk hEl
            clear hH hI hE7 hEl
            cases hb : (!bad && r.isEmpty) with
            | true =>
              rw [hb] at HE hdec
              have HD : Hid (decJn l = some ⟨A, E, ver⟩) := hdec
              clear hdec hb hS
              go_wp2_with fail
              refine HE.out.mono ?_
              rintro e w9 ⟨rfl, t9⟩
              have HF := Hid.mk (HY.out _ _ _ HD.out ⟨t9.isP, by show E.length ≤ 16; have := HEL.out; omega⟩ t9.k t9.newp)
              clear t9 HE
              go_wp2_with fail
              exact HF.out
            | false =>
              rw [hb] at HE hdec
              have HD : Hid (decJn l = none) := hdec
              clear hdec hb hS
              go_wp2_with fail
              refine HE.out.mono ?_
              rintro e w9 ⟨rfl, t9⟩
              have HF := Hid.mk (HN.out _ HD.out t9.k)
              clear t9 HE
              go_wp2_with fail
              exact HF.out
end
end Go.Proofs.YtdadloaifebdiaaGreat
