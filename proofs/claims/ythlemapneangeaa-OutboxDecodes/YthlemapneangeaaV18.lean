import Derived.Test.YthlemapneangeaaV06
import Derived.Test.YthlemapneangeaaV13
import Derived.Test.YthlemapneangeaaV14
import Derived.Test.YthlemapneangeaaV15
import Derived.Test.YthlemapneangeaaV17
/-
  Decode of an outbox.
-/
namespace Go.Proofs.Ythlemapneangeaa
set_option maxRecDepth 100000
open Go.RowKit
set_option linter.unusedVariables false
theorem rkN_fwd {l r : List UInt8} {K : List La} (h : rkN l = some (K, r)) : Rise K ∧ (∀ y ∈ K, isKey y.k = true ∧ y.s ≠ 0 ∧ U64 y.s) ∧ K.length ≤ 64 ∧ r.length ≤ l.length := by
  unfold rkN at h
  cases hn : num l with
  | none => rw [hn] at h; cases h
  | some b =>
    obtain ⟨n, r1⟩ := b
    rw [hn] at h
    change (if 64 < n then none else rks n [] r1) = _ at h
    split at h
    · cases h
    · obtain ⟨X, x1, x2, x3, x4, x5⟩ := rks_fwd n [] r1 K r List.Pairwise.nil h
      rw [List.nil_append] at x2
      subst x2
      refine ⟨x4, x5, by omega, ?_⟩
      have := congrArg List.length (num_fwd hn)
      have := congrArg List.length x3
      simp only [List.length_append] at *
      omega
theorem decO_eq (l : List UInt8) : decO l = (txt l).bind fun a => if isKey a.1 = false then none else (rkN a.2).bind fun c => (rlN a.1 c.2).bind fun e => if e.2 = [] ∧ ordB c.1 e.1.reverse = true then some ⟨a.1, c.1, e.1⟩ else none := by
  unfold decO
  cases ht : txt l with
  | none => rfl
  | some a =>
    obtain ⟨own, l1⟩ := a
    dsimp only [Option.bind_some]
    cases hk : isKey own with
    | false =>
      rw [if_pos rfl]
      cases hn : num l1 with
      | none => rfl
      | some b =>
        dsimp only [Option.bind_some]
        rw [if_pos (.inl rfl)]
    | true =>
      rw [if_neg (by simp)]
      unfold rkN
      cases hn : num l1 with
      | none => rfl
      | some b =>
        obtain ⟨n, r1⟩ := b
        dsimp only [Option.bind_some]
        by_cases h64 : 64 < n
        · rw [if_pos (.inr h64), if_pos h64]; rfl
        · rw [if_neg (by rintro (h | h); cases h; exact h64 h), if_neg h64]
          cases hr : rks n [] r1 with
          | none => rfl
          | some c =>
            obtain ⟨K, r2⟩ := c
            have hrise := (rks_fwd n [] r1 K r2 List.Pairwise.nil hr)
            obtain ⟨X, -, -, -, x4, -⟩ := hrise
            dsimp only [Option.bind_some]
            unfold rlN
            cases hm : num r2 with
            | none => rfl
            | some d =>
              obtain ⟨m, r3⟩ := d
              dsimp only [Option.bind_some]
              by_cases h32 : 32 < m
              · rw [if_pos h32, if_pos h32]; rfl
              · rw [if_neg h32, if_neg h32, rls_rlp own K m [] r3 (by simp)]
                cases hp : rlp own m [] r3 with
                | none => rfl
                | some e =>
                  obtain ⟨L, r4⟩ := e
                  dsimp only [Option.bind_some]
                  rw [ordB_ord x4]
                  by_cases hall : ∀ y ∈ L, hasK K y.to = true
                  · rw [if_pos hall]
                    dsimp only [Option.bind_some]
                    rw [decide_eq_true hall, Bool.true_and]
                  · rw [if_neg hall]
                    have : decide (∀ y ∈ L, hasK K y.to = true) = false := by simpa using hall
                    rw [this]
                    simp
section
variable {w0 w w' : World} {p q : Nat} {own : List UInt8} {K : List La} {qs : List Yq} {l : List UInt8} {bad : Bool}
/-- What Decode answers. -/
def DecO (w : World) (l : List UInt8) (e : Ending) (w' : World) : Prop :=
  (decO l = none ∧ e = .returned (.tuple #[.pointer none, .int .i64 2]) ∧ Kept [] w w') ∨
  (∃ p o qs, decO l = some o ∧ e = .returned (.tuple #[.pointer (some ⟨p, 0, none⟩), .int .i64 0]) ∧ IsO w' p o.own o.K qs ∧ qs.map ot = o.L ∧ Kept [] w w' ∧ w.heap.size ≤ p)
set_option maxHeartbeats 1000000 in
theorem readW46_bad (h : St w0 w p q own K [] [] true) : Calls Try.prog 46 #[.pointer (some ⟨p, 0, none⟩), .pointer (some ⟨q, 0, none⟩)] w fun e w' => e = .returned (.bool true) ∧ St w0 w' p q own K [] [] true := by
  have hA := st_num h
  rw [rnum_bad2] at hA
  have HA := Hid.mk hA
  clear h hA
  go_enter Try.func46, Try.ntmps46
  go_wp2_with fail
  refine HA.out.mono ?_
  rintro e w1 ⟨rfl, h1, -⟩
  have HS := Hid.mk h1
  clear h1 HA
  dsimp only
  go_wp2_with fail
  go_loopw [14] (fun i wr => i = .int .u64 0 ∧ Hid (St w0 wr p q own K [] [] true)) (fun _ _ => 0)
  case atStart => exact ⟨rfl, HS⟩
  case round =>
    obtain ⟨rfl, hS⟩ := hrel
    go_wp2_with fail
    go_ret
    exact ⟨rfl, hS.out⟩
theorem St.left (h : St w0 w p q own K qs l true) : l = [] := by
  obtain ⟨v, h1, -⟩ := h.rd
  exact h1.none rfl
theorem st_end (h : St w0 w p q own K qs l bad) : Calls Try.prog 47 #[.pointer (some ⟨q, 0, none⟩)] w fun e w' => e = .returned (.bool (!bad && l.isEmpty)) ∧ w = w' := by
  obtain ⟨v, h1, -⟩ := h.rd
  exact end_any q v l bad w h1
set_option maxHeartbeats 4000000 in
theorem decode16 (v : Value) (l : List UInt8) (hr : Reads w v l) (hl : l.length ≤ 140737488355328) : Calls Try.prog 16 #[v] w fun e w' => DecO w l e w' := by
  have HN : Hid (∀ W, decO l = none → Kept [] w W → DecO w l (.returned (.tuple #[.pointer none, .int .i64 2])) W) := fun W h k => .inl ⟨h, rfl, k⟩
  have HY : Hid (∀ W p o qs, decO l = some o → IsO W p o.own o.K qs → qs.map ot = o.L → Kept [] w W → w.heap.size ≤ p → DecO w l (.returned (.tuple #[.pointer (some ⟨p, 0, none⟩), .int .i64 0])) W) := fun W p o qs h1 h2 h3 h4 h5 => .inr ⟨p, o, qs, h1, rfl, h2, h3, h4, h5⟩
  generalize DecO w l = R at HN HY
  have HR := Hid.mk hr
  clear hr
  go_enter Try.func16, Try.ntmps16
  go_wp2_with fail
  refine (newr_in v l w HR.out hl).mono ?_
  rintro e w1 ⟨q, v1, rfl, hR1, k1, hf1, hq1, hin1⟩
  have HT := Hid.mk (rtext_any q v1 l false w1 hR1)
  clear hR1
  go_wp2_with fail
  refine HT.out.mono ?_
  rintro e w2 ⟨rfl, v2, hR2, k2, hi2⟩
  have k02 : Kept [] w w2 := k1.trans k2 (fun x hx => by simp at hx; subst hx; exact .inr hq1)
  have hkl := (rtext_rest l false).1
  have hrl := (rtext_rest l false).2
  clear HT
  cases ht : txt l with
  | none =>
    have HO : Hid (decO l = none) := by show _ = _; rw [decO_eq, ht]; rfl
    rw [txt_none ht]
    have H11 := Hid.mk (new11_no (w := w2) [] rfl (by simp))
    have HS := Hid.mk (HN.out _ HO.out k02)
    clear HN HY HO ht hR2 k2
    dsimp only
    go_wp2_with fail
    refine H11.out.mono ?_
    rintro e w3 ⟨rfl, rfl⟩
    go_wp2_with fail
    exact HS.out
  | some a =>
    obtain ⟨own, r⟩ := a
    have HDE : Hid (decO l = if isKey own = false then none else (rkN r).bind fun c => (rlN own c.2).bind fun e => if e.2 = [] ∧ ordB c.1 e.1.reverse = true then some ⟨own, c.1, e.1⟩ else none) := by show _ = _; rw [decO_eq, ht]; rfl
    rw [txt_some ht] at hR2 hkl hrl ⊢
    dsimp only at hR2 hkl hrl
    clear ht
    cases hk : isKey own with
    | false =>
      have HO : Hid (decO l = none) := by show _ = _; rw [HDE.out, if_pos hk]
      have H11 := Hid.mk (new11_no (w := w2) own hk (by omega))
      have HS := Hid.mk (HN.out _ HO.out k02)
      clear HN HY HO hR2 k2 hk HDE
      dsimp only
      go_wp2_with fail
      refine H11.out.mono ?_
      rintro e w3 ⟨rfl, rfl⟩
      go_wp2_with fail
      exact HS.out
    | true =>
      rw [hk] at HDE
      have HDE2 : Hid (decO l = (rkN r).bind fun c => (rlN own c.2).bind fun e => if e.2 = [] ∧ ordB c.1 e.1.reverse = true then some ⟨own, c.1, e.1⟩ else none) := by show _ = _; rw [HDE.out, if_neg (by simp)]
      have H11 := Hid.mk (new11 (w := w2) own hk)
      have hR2' := Hid.mk hR2
      have hql : q < w2.heap.size := hR2.lt
      have hin2 : ∀ g, v2.ownBlock = some g → g < w2.heap.size := fun g hg => by have := hin1 g (hi2 g hg); have := k2.size; omega
      have hw12 := k1.size
      clear hR2 hk HDE
      dsimp only
      go_wp2_with fail
      refine H11.out.mono ?_
      rintro e w3 ⟨p, rfl, hO3, k3, hp3⟩
      have hwp : w.heap.size ≤ p := by have := k02.size; omega
      have h3 : St w w3 p q own [] [] r false := ⟨hO3, ⟨v2, hR2'.out.kept k3 (by simp) (by simp), fun e => by have := hin2 p e; omega⟩, hq1, hwp, k02.trans k3 (by simp)⟩
      have H45 := Hid.mk (readT45 h3 (by omega))
      clear h3 hO3 k3 H11 hR2' k2 k1 hi2 hin1 hin2
      go_wp2_with fail
      refine H45.out.mono ?_
      rintro e w4 (⟨K, r2, hrk, rfl, h4⟩ | ⟨hrk, b4, K, r2, bad4, rfl, h4, hb4⟩)
      · obtain ⟨hri, hkeys, hK64, hr2l⟩ := rkN_fwd hrk
        have HDE3 : Hid (decO l = (rlN own r2).bind fun e => if e.2 = [] ∧ ordB K e.1.reverse = true then some ⟨own, K, e.1⟩ else none) := by show _ = _; rw [HDE2.out, hrk]; rfl
        have H46 := Hid.mk (readW46 h4 (by omega))
        clear h4 hrk HDE2 H45
        go_wp2_with fail
        refine H46.out.mono ?_
        rintro e w5 (⟨qs, r3, hrl3, rfl, h5⟩ | ⟨hrl3, b5, qs, r3, bad5, rfl, h5, hb5⟩)
        · have HDE4 : Hid (decO l = if r3 = [] ∧ ordB K (qs.map ot).reverse = true then some ⟨own, K, qs.map ot⟩ else none) := by show _ = _; rw [HDE3.out, hrl3]; rfl
          have H47 := Hid.mk (st_end h5)
          have H5 := Hid.mk h5
          clear h5 hrl3 HDE3 H46
          go_wp2_with fail
          refine H47.out.mono ?_
          rintro e w6 ⟨rfl, rfl⟩
          cases hre : r3 with
          | cons c r4 =>
            have HO : Hid (decO l = none) := by show _ = _; rw [HDE4.out, if_neg]; rintro ⟨h, -⟩; rw [hre] at h; cases h
            have HS := Hid.mk (HN.out _ HO.out H5.out.k)
            have e7 : (!false && (c :: r4).isEmpty) = false := rfl
            rw [e7]
            clear HN HY HO H5 HDE4 hre H47
            go_wp2_with fail
            exact HS.out
          | nil =>
            have e7 : (!false && ([] : List UInt8).isEmpty) = true := rfl
            rw [e7]
            have H48 := Hid.mk (inOrder48 H5.out.isO hri (fun y hy => (hkeys y hy).2.2))
            subst hre
            clear H47
            go_wp2_with fail
            refine H48.out.mono ?_
            rintro e w7 ⟨rfl, k7⟩
            have h7 := H5.out.kept0 k7
            cases hor : ordB K (qs.map ot).reverse with
            | false =>
              have HO : Hid (decO l = none) := by show _ = _; rw [HDE4.out, if_neg]; rintro ⟨-, h⟩; rw [hor] at h; cases h
              have HS := Hid.mk (HN.out _ HO.out h7.k)
              clear HN HY HO H5 HDE4 hor H48 h7
              go_wp2_with fail
              exact HS.out
            | true =>
              have HO : Hid (decO l = some ⟨own, K, qs.map ot⟩) := by show _ = _; rw [HDE4.out, if_pos (by first | exact ⟨rfl, hor⟩ | exact ⟨trivial, hor⟩)]
              have HS := Hid.mk (HY.out _ p ⟨own, K, qs.map ot⟩ qs HO.out h7.isO rfl h7.k hwp)
              clear HN HY HO H5 HDE4 hor H48 h7
              go_wp2_with fail
              exact HS.out
        · have HO : Hid (decO l = none) := by show _ = _; rw [HDE3.out, hrl3]; rfl
          cases b5 with
          | false =>
            have HS := Hid.mk (HN.out _ HO.out h5.k)
            clear HN HY HO h5 HDE3 hrl3 H46 hb5
            go_wp2_with fail
            exact HS.out
          | true =>
            obtain rfl := hb5 rfl
            have H47 := Hid.mk (st_end h5)
            have HS := Hid.mk (HN.out _ HO.out h5.k)
            have e7 : (!true && r3.isEmpty) = false := rfl
            rw [e7] at H47
            clear HN HY HO h5 HDE3 hrl3 H46 hb5 e7
            go_wp2_with fail
            refine H47.out.mono ?_
            rintro e w6 ⟨rfl, rfl⟩
            go_wp2_with fail
            exact HS.out
      · have HO : Hid (decO l = none) := by show _ = _; rw [HDE2.out, hrk]; rfl
        cases b4 with
        | false =>
          have HS := Hid.mk (HN.out _ HO.out h4.k)
          clear HN HY HO h4 HDE2 hrk H45 hb4
          go_wp2_with fail
          exact HS.out
        | true =>
          obtain rfl := hb4 rfl
          obtain rfl := h4.left
          have H46 := Hid.mk (readW46_bad h4)
          clear h4 HDE2 hrk H45 hb4
          go_wp2_with fail
          refine H46.out.mono ?_
          rintro e w5 ⟨rfl, h5⟩
          have H47 := Hid.mk (st_end h5)
          have HS := Hid.mk (HN.out _ HO.out h5.k)
          have e7 : (!true && ([] : List UInt8).isEmpty) = false := rfl
          rw [e7] at H47
          clear HN HY HO h5 H46 e7
          go_wp2_with fail
          refine H47.out.mono ?_
          rintro e w6 ⟨rfl, rfl⟩
          go_wp2_with fail
          exact HS.out
end
end Go.Proofs.Ythlemapneangeaa
/-
  Encode of an outbox, and the document's.
-/
namespace Go.Proofs.Ythlemapneangeaa
set_option maxRecDepth 100000
open Go.RowKit
set_option linter.unusedVariables false
/-- A Writer at q with the row v, made since w0. -/
def Wq (w0 w : World) (q : Nat) (v : Value) (l : List UInt8) : Prop := IsW 113 5 w q v l ∧ w0.heap.size ≤ q ∧ Fresh w0 v ∧ Kept [] w0 w
/-- Bytes of one's own. -/
def NewB (w : World) (l : List UInt8) (e : Ending) (w' : World) : Prop := ∃ v, e = .returned v ∧ Owns 5 w' v l ∧ Kept [] w w' ∧ Fresh w v
section
variable {w0 w w' : World} {p q : Nat} {v : Value} {l : List UInt8}
theorem Wq.kept0 (h : Wq w0 w q v l) (k : Kept [] w w') : Wq w0 w' q v l := ⟨h.1.kept k (by simp) (by simp), h.2.1, h.2.2.1, h.2.2.2.trans k (by simp)⟩
theorem owns_ne {e : TypeId} (h : Owns e w v l) {g : Nat} {cs : Array Value} {t : TypeId} {fz : Nat × Nat} (hg : w.heap[g]? = some (.cells cs t fz)) (ht : t ≠ e) : v.ownBlock ≠ some g := fun hv => by
  rcases h.2 with ⟨rfl, _⟩ | ⟨g1, cap, cur, rfl, _, hb, _⟩
  · simp [Value.ownBlock] at hv
  · simp [Value.ownBlock] at hv
    subst hv
    rw [hg] at hb
    injection hb with hb
    injection hb with _ e
    exact ht e
theorem Wq.notin (h : Wq w0 w q v l) {g : Nat} {cs : Array Value} {t : TypeId} (hg : w.heap[g]? = some (.cells cs t (0, 0))) (ht : t ≠ 113 ∧ t ≠ 5) : g ∉ foot q v := fun hm => by
  rcases mem_foot.1 hm with e | e
  · exact box_ne hg h.1.box ht.1 e
  · exact owns_ne h.1.own hg ht.2 e
theorem Wq.laid (h : Wq w0 w q v l) {l' : List UInt8} (L : Laid 113 5 w q v l' w') : ∃ v', Wq w0 w' q v' l' ∧ Kept (foot q v) w w' := by
  obtain ⟨v', i1, i2, i3⟩ := L
  refine ⟨v', ⟨i1, h.2.1, fun g hg => ?_, h.2.2.2.trans i2 (fun x hx => ?_)⟩, i2⟩
  · rcases i3 g hg with h' | h'
    · exact h.2.2.1 g h'
    · have := h.2.2.2.size; omega
  · rcases mem_foot.1 hx with rfl | h'
    · exact .inr h.2.1
    · exact .inr (h.2.2.1 x h')
theorem wq_num (h : Wq w0 w q v l) {n : Nat} (hn : U64 n) (hb : l.length ≤ 1000000) : Calls Try.prog 37 #[.pointer (some ⟨q, 0, none⟩), Uv n] w fun e w' => e = .returned (.tuple #[]) ∧ ∃ v', Wq w0 w' q v' (l ++ enc n) ∧ Kept (foot q v) w w' := by
  refine (wnum_any q v l n w h.1 hn (by omega)).mono ?_
  rintro e w' ⟨rfl, L⟩
  exact ⟨rfl, h.laid L⟩
theorem wq_text (h : Wq w0 w q v l) (s : List UInt8) (hs : s.length ≤ 1000000) (hb : l.length ≤ 1000000) : Calls Try.prog 36 #[.pointer (some ⟨q, 0, none⟩), Sv s] w fun e w' => e = .returned (.tuple #[]) ∧ ∃ v', Wq w0 w' q v' (l ++ encTx s) ∧ Kept (foot q v) w w' := by
  have hz : (⟨s.toArray⟩ : ByteArray).size = s.length := by simp [ByteArray.size]
  refine (wtext_any q v l ⟨s.toArray⟩ w h.1 (by rw [hz]; omega)).mono ?_
  rintro e w' ⟨rfl, L⟩
  rw [hz] at L
  have e : l ++ enc s.length ++ s = l ++ encTx s := by unfold encTx; rw [List.append_assoc]
  have L : Laid 113 5 w q v (l ++ enc s.length ++ s) w' := L
  rw [e] at L
  exact ⟨rfl, h.laid L⟩
end
section
variable {w0 w w' : World} {p pf : Nat} {own : List UInt8} {K : List La} {qs ms : List Yq}
theorem encK_take {K : List La} {j : Nat} {y : La} (h : K[j]? = some y) : encK (K.take (j + 1)) = encK (K.take j) ++ (encTx y.k ++ enc y.s) := by
  rw [List.take_add_one, h]
  simp [encK]
theorem encY_take {L : List Ot} {j : Nat} {y : Ot} (h : L[j]? = some y) : encY (L.take (j + 1)) = encY (L.take j) ++ (encTx y.to ++ encTx (encL y.x)) := by
  rw [List.take_add_one, h]
  simp [encY]
theorem GoodO.to40 {o : Ob} (g : GoodO o) {y : Ot} (hy : y ∈ o.L) : y.x.formed = true ∧ y.to.length ≤ 40 := by
  obtain ⟨h1, h2, h3, h4⟩ := g.lets _ hy
  obtain ⟨z, hz, e⟩ := (has_mem g.rise).1 h4
  have hk := (isKey_iff _).1 (g.key z hz).1
  rw [e] at hk
  exact ⟨h2, hk.2⟩
theorem encTx_length (s : List UInt8) : (encTx s).length ≤ s.length + 9 := by
  have := enc_length s.length
  unfold encTx
  rw [List.length_append]
  omega
set_option maxHeartbeats 2000000 in
theorem encode14 (hO : IsO w p own K qs) (hg : GoodO ⟨own, K, qs.map ot⟩) : Calls Try.prog 14 #[.pointer (some ⟨p, 0, none⟩)] w fun e w' => NewB w (encO ⟨own, K, qs.map ot⟩) e w' := by
  have HO := Hid.mk hO
  have HG := Hid.mk hg
  have hown := (isKey_iff _).1 hg.own
  dsimp only at hown
  have hne : (!own.isEmpty) = true := by have := hg.ne.1; dsimp only at this; cases h : own with | nil => exact absurd h this | cons _ _ => rfl
  have H34 := Hid.mk (owned34 hO)
  rw [hne] at H34
  have hkn := hO.kn
  have hln := hO.ln
  have g0 : (0 : Int) ≤ (K.length : Int) := by omega
  have g1 : (K.length : Int) ≤ 64 := by omega
  have f0 : (0 : Int) ≤ (qs.length : Int) := by omega
  have f1 : (qs.length : Int) ≤ 32 := by omega
  have e0 := encTx_length own
  have e1 := enc_length K.length
  have e2 := enc_length qs.length
  clear hO hg hne
  generalize hn : K.length = n at *
  generalize hm : qs.length = m at *
  have HN := Hid.mk hn
  have HM := Hid.mk hm
  clear hn hm
  go_enter Try.func14, Try.ntmps14
  go_wp2_with fail
  refine H34.out.mono ?_
  rintro e w1 ⟨rfl, rfl⟩
  go_wp2_with fail
  refine (newW _).mono ?_
  rintro e w2 ⟨q, rfl, hW2, k2, hq2⟩
  have W2 : Wq w w2 q (.slice none 0 0) [] := ⟨hW2, hq2, fresh_nil _ _, k2⟩
  have c2 := (HO.out.kept0 k2).owner
  have H3 := Hid.mk (wq_text W2 own (by omega) (by simp))
  clear W2 hW2 k2 hq2
  go_wp2_with fail
  refine H3.out.mono ?_
  rintro e w3 ⟨rfl, v3, W3, -⟩
  clear c2 H3
  rw [List.nil_append] at W3
  have c3 := (HO.out.kept0 W3.2.2.2).known
  rw [HN.out] at c3
  have H4 := Hid.mk (wq_num W3 (n := n) (by unfold U64; omega) (by omega))
  clear W3
  go_wp2_with fail
  refine H4.out.mono ?_
  rintro e w4 ⟨rfl, v4, W4, -⟩
  clear c3 H4
  have c4 := (HO.out.kept0 W4.2.2.2).known
  rw [HN.out] at c4
  have HW4 := Hid.mk W4
  clear W4
  go_wp2_with fail
  go_quiet (fail)
  have HW5 := Hid.mk (HW4.out.kept0 ((Kept.refl [] w4).drewN nq))
  generalize w4.drewN nq = w5 at HW5 ⊢
  clear HW4 c4
  have hB1 : (encTx own ++ enc n).length ≤ 58 := by rw [List.length_append]; omega
  generalize hB : encTx own ++ enc n = B1 at *
  have HB1 := Hid.mk hB
  clear hB e0 e1
  go_wp2_with fail
  go_loopw [36] (fun i wr => ∃ j : Nat, i = .int .i64 (j : Int) ∧ j ≤ n ∧ Hid (∃ v, Wq w wr q v (B1 ++ encK (K.take j)))) (fun i _ => n - (intOf i).toNat)
  case atStart => exact ⟨0, rfl, by omega, Hid.mk ⟨v4, by simpa [encK] using HW5.out⟩⟩
  case round =>
    obtain ⟨j, rfl, hj, hH⟩ := hrel
    obtain ⟨v6, W6⟩ := hH.out
    have hOr := HO.out.kept0 W6.2.2.2
    have hlK := encK_length (K := K.take j) (fun y hy => (HG.out.key y (List.mem_of_mem_take hy)).1)
    rw [List.length_take] at hlK
    by_cases hlt : j < n
    · have hjI : (j : Int) < (n : Int) := by omega
      have hj0 : (0 : Int) ≤ (j : Int) := by omega
      obtain ⟨y, hy⟩ : ∃ y, K[j]? = some y := ⟨_, List.getElem?_eq_getElem (by have := HN.out; omega)⟩
      obtain ⟨d0, d1⟩ := hOr.key hy
      have hyk := HG.out.key y (List.mem_of_getElem? hy)
      have hkl := (isKey_iff _).1 hyk.1
      obtain ⟨W7, e7, k7, hz7, hb7⟩ := box1 wr (.cells #[Sv y.k, Uv y.s] 59)
      have H8 := Hid.mk (wq_text (W6.kept0 k7) y.k (by omega) (by rw [List.length_append]; omega))
      have HB7 : Hid (wr.heap.size ∉ foot q v6) := (W6.kept0 k7).notin hb7 (by decide)
      have HK := Hid.mk hyk
      have HE := Hid.mk (encK_take hy)
      have E7 := Hid.mk e7
      clear hH W6 hOr hy hyk k7 hz7 e7
      go_wp2_with fail
      rw [E7.out]
      refine H8.out.mono ?_
      rintro e w8 ⟨rfl, v8, W8, k8⟩
      have hb8 := k8.keeps hb7 HB7.out
      have c81 : w8.cell? ⟨wr.heap.size, 1, none⟩ = some (Uv y.s) := IsO.cell (cs := [Sv y.k, Uv y.s]) hb8 rfl
      have hek := encTx_length y.k
      have H9 := Hid.mk (wq_num W8 HK.out.2.2 (by rw [List.length_append, List.length_append]; omega))
      clear W8 k8 hb8 H8
      go_wp2_with fail
      refine H9.out.mono ?_
      rintro e w9 ⟨rfl, v9, W9, -⟩
      have HW9 : Hid (∃ v, Wq w w9 q v (B1 ++ encK (K.take (j + 1)))) := ⟨v9, by rw [HE.out]; simpa [List.append_assoc] using W9⟩
      clear W9 c81 H9 d0 d1 hb7
      go_wp2_with fail
      go_roundw
      case rel => exact ⟨j + 1, by go_num, by omega, HW9⟩
      case measure => simp [intOf]; omega
    · obtain rfl : j = n := by omega
      have hc := hOr.count
      rw [HM.out] at hc
      have H10 := Hid.mk (wq_num W6 (n := m) (by unfold U64; omega) (by rw [List.length_append]; omega))
      clear W6 hOr hH
      go_wp2_with fail
      refine H10.out.mono ?_
      rintro e w10 ⟨rfl, v10, W10, -⟩
      rw [List.take_of_length_le (by have := HN.out; omega)] at W10 hlK
      have hc10 := (HO.out.kept0 W10.2.2.2).count
      rw [HM.out] at hc10
      have HW10 := Hid.mk W10
      clear W10 hc H10
      go_wp2_with fail
      go_quiet (fail)
      have HW11 := Hid.mk (HW10.out.kept0 ((Kept.refl [] w10).drewN nq))
      generalize w10.drewN nq = w11 at HW11 ⊢
      clear HW10 hc10
      have hB2 : (B1 ++ encK K ++ enc m).length ≤ 4000 := by rw [List.length_append, List.length_append]; omega
      generalize hBB : B1 ++ encK K ++ enc m = B2 at *
      have HB2 := Hid.mk hBB
      clear hBB
      go_wp2_with fail
      go_loopw [65] (fun i wr => ∃ j : Nat, i = .int .i64 (j : Int) ∧ j ≤ m ∧ Hid (∃ v, Wq w wr q v (B2 ++ encY ((qs.map ot).take j)))) (fun i _ => m - (intOf i).toNat)
      case atStart => exact ⟨0, rfl, by omega, Hid.mk ⟨v10, by simpa [encY] using HW11.out⟩⟩
      case round =>
        clear HW11 HW5 hlt hlK
        obtain ⟨j, rfl, hj, hH⟩ := hrel
        obtain ⟨v6, W6⟩ := hH.out
        have hOr := HO.out.kept0 W6.2.2.2
        have hlY := encY_length (L := (qs.map ot).take j) (fun y hy => HG.out.to40 (List.mem_of_mem_take hy))
        rw [List.length_take, List.length_map, HM.out] at hlY
        by_cases hlt : j < m
        · have hjI : (j : Int) < (m : Int) := by omega
          have hj0 : (0 : Int) ≤ (j : Int) := by omega
          obtain ⟨y, hy⟩ : ∃ y, qs[j]? = some y := ⟨_, List.getElem?_eq_getElem (by have := HM.out; omega)⟩
          have hyL : (qs.map ot)[j]? = some (ot y) := by rw [List.getElem?_map, hy]; rfl
          obtain ⟨d0, d1, d2, d3, d4⟩ := hOr.at hy
          have hym := List.mem_of_getElem? hyL
          obtain ⟨hfo, hto⟩ := HG.out.to40 hym
          have hok : y.q.x.ok := (HG.out.lets _ hym).1
          have hfo : y.q.x.formed = true := hfo
          have hto : y.to.length ≤ 40 := hto
          have harg := hOr.args y (List.mem_of_getElem? hy)
          obtain ⟨W7, e7, k7, hz7, hb7⟩ := box1 wr (.cells #[Sv y.to, Sv y.q.x.fr, .int .u64 (y.q.x.ser : Int), .int .i64 y.q.x.kind, .slice y.q.ad y.q.x.args.length y.q.cap] 48)
          have d4 : wr.cell? ⟨p, 130 + j * 5 + 4, none⟩ = some (.slice y.q.ad y.q.x.args.length y.q.cap) := d4
          have HX : Hid (Calls Try.prog 38 #[Lv y.q.x y.q.ad y.q.cap] W7 fun e w' => TwoB W7 (encL y.q.x) 0 e w') := by
            have := encode11 y.q.x y.q.ad y.q.cap (harg.reads.kept k7 (by simp)) hok
            have e1 : encB y.q.x = encL y.q.x := by simp [encB, hfo]
            have e2 : encE y.q.x = 0 := by simp [encE, hfo]
            rw [e1, e2] at this
            exact this
          have W7q := Hid.mk (W6.kept0 k7)
          have HE := Hid.mk (encY_take hyL)
          have E7 := Hid.mk e7
          have hxl := encL_length y.q.x
          have hfl := formed_le hfo
          clear hH W6 hOr hy hyL hym k7 hz7 e7 harg hok hfo
          go_wp2_with fail
          rw [E7.out]
          refine HX.out.mono ?_
          rintro e w8 ⟨v8, rfl, hO8, k8, hf8⟩
          have W8q := W7q.out.kept0 k8
          have hb8 := k8.keeps hb7 (by simp)
          have c80 := (cells5 hb8).1
          have hft8 := W8q.notin hb8 (by decide)
          have HV : Hid (∀ W, Kept (foot q v6) w8 W → Reads W v8 (encL y.q.x)) := fun W k => hO8.reads.kept k (fun g hg hm => by
            have h1 := hf8 g hg
            rcases mem_foot.1 hm with rfl | h
            · have := W7q.out.1.lt; omega
            · have := W7q.out.1.own.lt h; omega)
          obtain ⟨a8, n8, rfl⟩ := hO8.form
          have H9 := Hid.mk (wq_text W8q y.to (by omega) (by rw [List.length_append]; omega))
          clear W8q hO8 k8 hf8 HX hb8 W7q
          go_wp2_with fail
          refine H9.out.mono ?_
          rintro e w9 ⟨rfl, v9, W9, k9⟩
          have hst := string_of 34 5 Try.underlying34 9 Try.underlying5 Try.underlying9 _ _ _ (HV.out _ k9)
          have het := encTx_length y.to
          have H10 := Hid.mk (wq_text W9 (encL y.q.x) (by omega) (by rw [List.length_append, List.length_append]; omega))
          clear W9 k9 H9 HV c80
          go_wp2_with fail
          refine H10.out.mono ?_
          rintro e w12 ⟨rfl, v12, W12, -⟩
          have HW12 : Hid (∃ v, Wq w w12 q v (B2 ++ encY ((qs.map ot).take (j + 1)))) := ⟨v12, by rw [HE.out]; simpa [List.append_assoc, ot] using W12⟩
          clear W12 H10 hst d0 d1 d2 d3 d4 hb7
          go_wp2_with fail
          go_roundw
          case rel => exact ⟨j + 1, by go_num, by omega, HW12⟩
          case measure => simp [intOf]; omega
        · obtain rfl : j = m := by omega
          have HBt := Hid.mk (wbytes_any q v6 _ wr W6.1 (by rw [List.length_append]; omega))
          have HKr := Hid.mk W6.2.2.2
          clear W6 hOr hH
          go_wp2_with fail
          refine HBt.out.mono ?_
          rintro e w13 ⟨v13, rfl, hO13, k13, hf13⟩
          go_wp2_with fail
          go_ret
          refine ⟨v13, rfl, ?_, HKr.out.trans k13 (by simp), fun g hg => ?_⟩
          · rw [List.take_of_length_le (by rw [List.length_map]; have := HM.out; omega), ← HB2.out, ← HB1.out] at hO13
            unfold encO
            dsimp only
            rw [List.length_map, HN.out, HM.out]
            simpa [List.append_assoc] using hO13
          · have := hf13 g hg
            have := HKr.out.size
            omega
end
end Go.Proofs.Ythlemapneangeaa
/-
  OutboxGoes: the walk.
-/
namespace Go.Proofs.Ythlemapneangeaa
set_option maxRecDepth 100000
open Go.RowKit
set_option linter.unusedVariables false
section
variable {w0 w : World} {p pf : Nat} {o : Ob} {B : Nat}
theorem encO_length {o : Ob} (g : GoodO o) : (encO o).length ≤ 20000 := by
  have h1 := encK_length (K := o.K) (fun y hy => (g.key y hy).1)
  have h2 := encY_length (L := o.L) (fun y hy => g.to40 hy)
  have h3 := encTx_length o.own
  have h4 := enc_length o.K.length
  have h5 := enc_length o.L.length
  have h6 := g.kn
  have h7 := g.ln
  have h8 := g.ne.2
  unfold encO
  simp only [List.length_append]
  omega
theorem two_enc (T : Two w0 w p pf o B) : Calls Try.prog 14 #[.pointer (some ⟨p, 0, none⟩)] w fun e w' => NewB w (encO o) e w' := by
  obtain ⟨⟨qs, hO, hq⟩, -, -, g, -⟩ := T
  have e : (⟨o.own, o.K, qs.map ot⟩ : Ob) = o := by rw [hq]
  have := encode14 hO (by rw [e]; exact g)
  rwa [e] at this
/-- Another outbox of the program's in its place. -/
theorem Two.again {p' : Nat} {qs : List Yq} (T : Two w0 w p pf o B) (hO : IsO w p' o.own o.K qs) (hq : qs.map ot = o.L) (hp : w0.heap.size ≤ p') : Two w0 w p' pf o B := ⟨⟨qs, hO, hq⟩, T.isF, hp, T.good, T.bnd⟩
set_option maxHeartbeats 1000000 in
theorem goes_walk {v1 v2 : Value} {l1 l2 : List Pq} (hr1 : OpsIn w v1 l1) (hr2 : OpsIn w v2 l2) : Calls Try.prog 5 #[v1, v2] w fun e w' => e = .returned (.bool true) ∧ Kept [] w w' := by
  obtain ⟨a1, c1, rfl, hv1, hv2⟩ : ∃ a c, v1 = .slice a l1.length c ∧ l1.length ≤ c ∧ c ≤ 9223372036854775807 := by
    have := ReadsR.form hr1.1
    rwa [CP_length] at this
  obtain ⟨a2, c2, rfl, hv3, hv4⟩ : ∃ a c, v2 = .slice a l2.length c ∧ l2.length ≤ c ∧ c ≤ 9223372036854775807 := by
    have := ReadsR.form hr2.1
    rwa [CP_length] at this
  have HR1 := Hid.mk hr1
  have HR2 := Hid.mk hr2
  clear hr1 hr2
  go_enter Try.func5, Try.ntmps5
  go_wp2_with fail
  refine awake9.mono ?_
  rintro e w1 ⟨rfl, k1⟩
  go_wp2_with fail
  refine (few10 (HR1.out.1.kept k1 (by simp))).mono ?_
  rintro e w2 ⟨fb, rfl, hfew, k2⟩
  have k02 := k1.trans k2 (by simp)
  cases fb with
  | false =>
    go_wp2_with fail
    refine awake9.mono ?_
    rintro e w3 ⟨rfl, k3⟩
    go_wp2_with fail
    go_ret
    exact ⟨rfl, k02.trans k3 (by simp)⟩
  | true =>
    have HF1 := Hid.mk (hfew rfl)
    clear hfew
    go_wp2_with fail
    refine (few10 (HR2.out.1.kept k02 (by simp))).mono ?_
    rintro e w3 ⟨fb, rfl, hfew, k3⟩
    have k03 := k02.trans k3 (by simp)
    cases fb with
    | false =>
      go_wp2_with fail
      refine awake9.mono ?_
      rintro e w4 ⟨rfl, k4⟩
      go_wp2_with fail
      go_ret
      exact ⟨rfl, k03.trans k4 (by simp)⟩
    | true =>
      have HF2 := Hid.mk (hfew rfl)
      clear hfew k02 k2 k1 k3
      go_wp2_with fail
      refine (new11 [109, 101] rfl).mono ?_
      rintro e w4 ⟨p, rfl, hB4, k4, hp⟩
      have k04 := k03.trans k4 (by simp)
      go_wp2_with fail
      refine (new12 (w0 := w) [109, 101] rfl k04.size).mono ?_
      rintro e w5 ⟨pf, rfl, hF5, k5⟩
      have k05 := k04.trans k5 (by simp)
      have T : Two w w5 p pf ⟨[109, 101], [], []⟩ 0 := ⟨⟨[], hB4.kept0 k5, rfl⟩, ⟨_, _, [], hF5, rfl⟩, by have := k03.size; omega, GoodO.new rfl, by simp⟩
      go_wp2_with fail
      refine (play13 T k05 HR1.out HF1.out (by omega)).mono ?_
      rintro e w6 ⟨rfl, ⟨o6, T6⟩, k06⟩
      have HT6 := Hid.mk T6
      clear T hB4 hF5 k05 k04 k03 k4 k5 hp T6
      go_wp2_with fail
      refine (two_enc HT6.out).mono ?_
      rintro e w7 ⟨v7, rfl, hO7, k7, hf7⟩
      have hlen := encO_length HT6.out.good
      have H16 := Hid.mk (decode16 v7 _ hO7.reads (by omega))
      obtain ⟨a7, n7, rfl⟩ := hO7.form
      clear hO7 hf7
      go_wp2_with fail
      refine H16.out.mono ?_
      rintro e w8 (⟨hd, -, -⟩ | ⟨p', o8, qs8, hd, rfl, hO8, hq8, k8, hp8⟩)
      · rw [decO_back HT6.out.good] at hd
        cases hd
      · rw [decO_back HT6.out.good] at hd
        injection hd with hd
        subst hd
        have T8 := ((HT6.out.kept0 k7).kept0 k8).again hO8 hq8 (by have := k06.size; have := k7.size; omega)
        have k08 := (k06.trans k7 (by simp)).trans k8 (by simp)
        have HP := Hid.mk (play13 T8 k08 HR2.out HF2.out (by omega))
        clear T8 hO8 hq8 k8 hp8 H16 HT6 k7 k06 hlen
        go_wp2_with fail
        refine HP.out.mono ?_
        rintro e w9 ⟨rfl, -, k9⟩
        go_wp2_with fail
        go_ret
        exact ⟨rfl, k9⟩
end
end Go.Proofs.Ythlemapneangeaa
