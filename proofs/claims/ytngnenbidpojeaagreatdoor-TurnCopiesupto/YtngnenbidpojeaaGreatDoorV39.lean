import Derived.Test.YtngnenbidpojeaaGreatDoorV09
import Derived.Test.YtngnenbidpojeaaGreatDoorV23
import Derived.Test.YtngnenbidpojeaaGreatDoorV24
import Derived.Test.YtngnenbidpojeaaGreatDoorV26
import Derived.Test.YtngnenbidpojeaaGreatDoorV37
import Derived.Test.YtngnenbidpojeaaGreatDoorV38
/-
  Decode of an outbox.
-/
namespace Go.Proofs.YtngnenbidpojeaaGreatDoor
set_option maxRecDepth 100000
open Go.RowKit
set_option linter.unusedVariables false
theorem rkN_fwd {l r : List UInt8} {K : List La} (h : rkN l = some (K, r)) : Rise K ∧ (∀ y ∈ K, isKey y.k = true ∧ y.s ≠ 0 ∧ U64 y.s) ∧ K.length ≤ 64 ∧ r.length ≤ l.length := by
  unfold rkN at h
  cases hn : num l with
  | none => rw [hn] at h; cases h
  | some b =>
    obtain ⟨n, r1⟩ := b
    rw [hn] at h
    change (if 64 < n then none else rks n [] r1) = _ at h
    split at h
    · cases h
    · obtain ⟨X, x1, x2, x3, x4, x5⟩ := rks_fwd n [] r1 K r List.Pairwise.nil h
      rw [List.nil_append] at x2
      subst x2
      refine ⟨x4, x5, by omega, ?_⟩
      have := congrArg List.length (num_fwd hn)
      have := congrArg List.length x3
      simp only [List.length_append] at *
      omega
theorem decO_eq (l : List UInt8) : decO l = (txt l).bind fun a => if isKey a.1 = false then none else (rkN a.2).bind fun c => (rlN a.1 c.2).bind fun e => if e.2 = [] ∧ ordB c.1 e.1.reverse = true then some ⟨a.1, c.1, e.1⟩ else none := by
  unfold decO
  cases ht : txt l with
  | none => rfl
  | some a =>
    obtain ⟨own, l1⟩ := a
    dsimp only [Option.bind_some]
    cases hk : isKey own with
    | false =>
      rw [if_pos rfl]
      cases hn : num l1 with
      | none => rfl
      | some b =>
        dsimp only [Option.bind_some]
        rw [if_pos (.inl rfl)]
    | true =>
      rw [if_neg (by simp)]
      unfold rkN
      cases hn : num l1 with
      | none => rfl
      | some b =>
        obtain ⟨n, r1⟩ := b
        dsimp only [Option.bind_some]
        by_cases h64 : 64 < n
        · rw [if_pos (.inr h64), if_pos h64]; rfl
        · rw [if_neg (by rintro (h | h); cases h; exact h64 h), if_neg h64]
          cases hr : rks n [] r1 with
          | none => rfl
          | some c =>
            obtain ⟨K, r2⟩ := c
            have hrise := (rks_fwd n [] r1 K r2 List.Pairwise.nil hr)
            obtain ⟨X, -, -, -, x4, -⟩ := hrise
            dsimp only [Option.bind_some]
            unfold rlN
            cases hm : num r2 with
            | none => rfl
            | some d =>
              obtain ⟨m, r3⟩ := d
              dsimp only [Option.bind_some]
              by_cases h32 : 32 < m
              · rw [if_pos h32, if_pos h32]; rfl
              · rw [if_neg h32, if_neg h32, rls_rlp own K m [] r3 (by simp)]
                cases hp : rlp own m [] r3 with
                | none => rfl
                | some e =>
                  obtain ⟨L, r4⟩ := e
                  dsimp only [Option.bind_some]
                  rw [ordB_ord x4]
                  by_cases hall : ∀ y ∈ L, hasK K y.to = true
                  · rw [if_pos hall]
                    dsimp only [Option.bind_some]
                    rw [decide_eq_true hall, Bool.true_and]
                  · rw [if_neg hall]
                    have : decide (∀ y ∈ L, hasK K y.to = true) = false := by simpa using hall
                    rw [this]
                    simp
section
variable {w0 w w' : World} {p q : Nat} {own : List UInt8} {K : List La} {qs : List Yq} {l : List UInt8} {bad : Bool}
/-- What Decode answers. -/
def DecO (w : World) (l : List UInt8) (e : Ending) (w' : World) : Prop :=
  (decO l = none ∧ e = .returned (.tuple #[.pointer none, .int .i64 2]) ∧ Kept [] w w') ∨
  (∃ p o qs, decO l = some o ∧ e = .returned (.tuple #[.pointer (some ⟨p, 0, none⟩), .int .i64 0]) ∧ IsO w' p o.own o.K qs ∧ qs.map ot = o.L ∧ Kept [] w w' ∧ w.heap.size ≤ p)
set_option maxHeartbeats 1000000 in
theorem readW46_bad (h : St w0 w p q own K [] [] true) : Calls Tryz.prog 142 #[.pointer (some ⟨p, 0, none⟩), .pointer (some ⟨q, 0, none⟩)] w fun e w' => e = .returned (.bool true) ∧ St w0 w' p q own K [] [] true := by
  have hA := st_num h
  rw [rnum_bad2] at hA
  have HA := Hid.mk hA
  clear h hA
  go_enter Tryz.func142, Tryz.ntmps142
  go_wp2_with fail
  refine HA.out.mono ?_
  rintro e w1 ⟨rfl, h1, -⟩
  have HS := Hid.mk h1
  clear h1 HA
  dsimp only
  go_wp2_with fail
  go_loopw [14] (fun i wr => i = .int .u64 0 ∧ Hid (St w0 wr p q own K [] [] true)) (fun _ _ => 0)
  case atStart => exact ⟨rfl, HS⟩
  case round =>
    obtain ⟨rfl, hS⟩ := hrel
    go_wp2_with fail
    go_ret
    exact ⟨rfl, hS.out⟩
theorem St.left (h : St w0 w p q own K qs l true) : l = [] := by
  obtain ⟨v, h1, -⟩ := h.rd
  exact h1.none rfl
theorem st_end (h : St w0 w p q own K qs l bad) : Calls Tryz.prog 73 #[.pointer (some ⟨q, 0, none⟩)] w fun e w' => e = .returned (.bool (!bad && l.isEmpty)) ∧ w = w' := by
  obtain ⟨v, h1, -⟩ := h.rd
  exact end_any q v l bad w h1
set_option maxHeartbeats 4000000 in
theorem decode16 (v : Value) (l : List UInt8) (hr : Reads w v l) (hl : l.length ≤ 140737488355328) : Calls Tryz.prog 118 #[v] w fun e w' => DecO w l e w' := by
  have HN : Hid (∀ W, decO l = none → Kept [] w W → DecO w l (.returned (.tuple #[.pointer none, .int .i64 2])) W) := fun W h k => .inl ⟨h, rfl, k⟩
  have HY : Hid (∀ W p o qs, decO l = some o → IsO W p o.own o.K qs → qs.map ot = o.L → Kept [] w W → w.heap.size ≤ p → DecO w l (.returned (.tuple #[.pointer (some ⟨p, 0, none⟩), .int .i64 0])) W) := fun W p o qs h1 h2 h3 h4 h5 => .inr ⟨p, o, qs, h1, rfl, h2, h3, h4, h5⟩
  generalize DecO w l = R at HN HY
  have HR := Hid.mk hr
  clear hr
  go_enter Tryz.func118, Tryz.ntmps118
  go_wp2_with fail
  refine (newr_in v l w HR.out hl).mono ?_
  rintro e w1 ⟨q, v1, rfl, hR1, k1, hf1, hq1, hin1⟩
  have HT := Hid.mk (rtext_any q v1 l false w1 hR1)
  clear hR1
  go_wp2_with fail
  refine HT.out.mono ?_
  rintro e w2 ⟨rfl, v2, hR2, k2, hi2⟩
  have k02 : Kept [] w w2 := k1.trans k2 (fun x hx => by simp at hx; subst hx; exact .inr hq1)
  have hkl := (rtext_rest l false).1
  have hrl := (rtext_rest l false).2
  clear HT
  cases ht : txt l with
  | none =>
    have HO : Hid (decO l = none) := by show _ = _; rw [decO_eq, ht]; rfl
    rw [txt_none ht]
    have H11 := Hid.mk (new11_no (w := w2) [] rfl (by simp))
    have HS := Hid.mk (HN.out _ HO.out k02)
    clear HN HY HO ht hR2 k2
    dsimp only
    go_wp2_with fail
    refine H11.out.mono ?_
    rintro e w3 ⟨rfl, rfl⟩
    go_wp2_with fail
    exact HS.out
  | some a =>
    obtain ⟨own, r⟩ := a
    have HDE : Hid (decO l = if isKey own = false then none else (rkN r).bind fun c => (rlN own c.2).bind fun e => if e.2 = [] ∧ ordB c.1 e.1.reverse = true then some ⟨own, c.1, e.1⟩ else none) := by show _ = _; rw [decO_eq, ht]; rfl
    rw [txt_some ht] at hR2 hkl hrl ⊢
    dsimp only at hR2 hkl hrl
    clear ht
    cases hk : isKey own with
    | false =>
      have HO : Hid (decO l = none) := by show _ = _; rw [HDE.out, if_pos hk]
      have H11 := Hid.mk (new11_no (w := w2) own hk (by omega))
      have HS := Hid.mk (HN.out _ HO.out k02)
      clear HN HY HO hR2 k2 hk HDE
      dsimp only
      go_wp2_with fail
      refine H11.out.mono ?_
      rintro e w3 ⟨rfl, rfl⟩
      go_wp2_with fail
      exact HS.out
    | true =>
      rw [hk] at HDE
      have HDE2 : Hid (decO l = (rkN r).bind fun c => (rlN own c.2).bind fun e => if e.2 = [] ∧ ordB c.1 e.1.reverse = true then some ⟨own, c.1, e.1⟩ else none) := by show _ = _; rw [HDE.out, if_neg (by simp)]
      have H11 := Hid.mk (new11 (w := w2) own hk)
      have hR2' := Hid.mk hR2
      have hql : q < w2.heap.size := hR2.lt
      have hin2 : ∀ g, v2.ownBlock = some g → g < w2.heap.size := fun g hg => by have := hin1 g (hi2 g hg); have := k2.size; omega
      have hw12 := k1.size
      clear hR2 hk HDE
      dsimp only
      go_wp2_with fail
      refine H11.out.mono ?_
      rintro e w3 ⟨p, rfl, hO3, k3, hp3⟩
      have hwp : w.heap.size ≤ p := by have := k02.size; omega
      have h3 : St w w3 p q own [] [] r false := ⟨hO3, ⟨v2, hR2'.out.kept k3 (by simp) (by simp), fun e => by have := hin2 p e; omega⟩, hq1, hwp, k02.trans k3 (by simp)⟩
      have H45 := Hid.mk (readT45 h3 (by omega))
      clear h3 hO3 k3 H11 hR2' k2 k1 hi2 hin1 hin2
      go_wp2_with fail
      refine H45.out.mono ?_
      rintro e w4 (⟨K, r2, hrk, rfl, h4⟩ | ⟨hrk, b4, K, r2, bad4, rfl, h4, hb4⟩)
      · obtain ⟨hri, hkeys, hK64, hr2l⟩ := rkN_fwd hrk
        have HDE3 : Hid (decO l = (rlN own r2).bind fun e => if e.2 = [] ∧ ordB K e.1.reverse = true then some ⟨own, K, e.1⟩ else none) := by show _ = _; rw [HDE2.out, hrk]; rfl
        have H46 := Hid.mk (readW46 h4 (by omega))
        clear h4 hrk HDE2 H45
        go_wp2_with fail
        refine H46.out.mono ?_
        rintro e w5 (⟨qs, r3, hrl3, rfl, h5⟩ | ⟨hrl3, b5, qs, r3, bad5, rfl, h5, hb5⟩)
        · have HDE4 : Hid (decO l = if r3 = [] ∧ ordB K (qs.map ot).reverse = true then some ⟨own, K, qs.map ot⟩ else none) := by show _ = _; rw [HDE3.out, hrl3]; rfl
          have H47 := Hid.mk (st_end h5)
          have H5 := Hid.mk h5
          clear h5 hrl3 HDE3 H46
          go_wp2_with fail
          refine H47.out.mono ?_
          rintro e w6 ⟨rfl, rfl⟩
          cases hre : r3 with
          | cons c r4 =>
            have HO : Hid (decO l = none) := by show _ = _; rw [HDE4.out, if_neg]; rintro ⟨h, -⟩; rw [hre] at h; cases h
            have HS := Hid.mk (HN.out _ HO.out H5.out.k)
            have e7 : (!false && (c :: r4).isEmpty) = false := rfl
            rw [e7]
            clear HN HY HO H5 HDE4 hre H47
            go_wp2_with fail
            exact HS.out
          | nil =>
            have e7 : (!false && ([] : List UInt8).isEmpty) = true := rfl
            rw [e7]
            have H48 := Hid.mk (inOrder48 H5.out.isO hri (fun y hy => (hkeys y hy).2.2))
            subst hre
            clear H47
            go_wp2_with fail
            refine H48.out.mono ?_
            rintro e w7 ⟨rfl, k7⟩
            have h7 := H5.out.kept0 k7
            cases hor : ordB K (qs.map ot).reverse with
            | false =>
              have HO : Hid (decO l = none) := by show _ = _; rw [HDE4.out, if_neg]; rintro ⟨-, h⟩; rw [hor] at h; cases h
              have HS := Hid.mk (HN.out _ HO.out h7.k)
              clear HN HY HO H5 HDE4 hor H48 h7
              go_wp2_with fail
              exact HS.out
            | true =>
              have HO : Hid (decO l = some ⟨own, K, qs.map ot⟩) := by show _ = _; rw [HDE4.out, if_pos (by first | exact ⟨rfl, hor⟩ | exact ⟨trivial, hor⟩)]
              have HS := Hid.mk (HY.out _ p ⟨own, K, qs.map ot⟩ qs HO.out h7.isO rfl h7.k hwp)
              clear HN HY HO H5 HDE4 hor H48 h7
              go_wp2_with fail
              exact HS.out
        · have HO : Hid (decO l = none) := by show _ = _; rw [HDE3.out, hrl3]; rfl
          cases b5 with
          | false =>
            have HS := Hid.mk (HN.out _ HO.out h5.k)
            clear HN HY HO h5 HDE3 hrl3 H46 hb5
            go_wp2_with fail
            exact HS.out
          | true =>
            obtain rfl := hb5 rfl
            have H47 := Hid.mk (st_end h5)
            have HS := Hid.mk (HN.out _ HO.out h5.k)
            have e7 : (!true && r3.isEmpty) = false := rfl
            rw [e7] at H47
            clear HN HY HO h5 HDE3 hrl3 H46 hb5 e7
            go_wp2_with fail
            refine H47.out.mono ?_
            rintro e w6 ⟨rfl, rfl⟩
            go_wp2_with fail
            exact HS.out
      · have HO : Hid (decO l = none) := by show _ = _; rw [HDE2.out, hrk]; rfl
        cases b4 with
        | false =>
          have HS := Hid.mk (HN.out _ HO.out h4.k)
          clear HN HY HO h4 HDE2 hrk H45 hb4
          go_wp2_with fail
          exact HS.out
        | true =>
          obtain rfl := hb4 rfl
          obtain rfl := h4.left
          have H46 := Hid.mk (readW46_bad h4)
          clear h4 HDE2 hrk H45 hb4
          go_wp2_with fail
          refine H46.out.mono ?_
          rintro e w5 ⟨rfl, h5⟩
          have H47 := Hid.mk (st_end h5)
          have HS := Hid.mk (HN.out _ HO.out h5.k)
          have e7 : (!true && ([] : List UInt8).isEmpty) = false := rfl
          rw [e7] at H47
          clear HN HY HO h5 H46 e7
          go_wp2_with fail
          refine H47.out.mono ?_
          rintro e w6 ⟨rfl, rfl⟩
          go_wp2_with fail
          exact HS.out
end
end Go.Proofs.YtngnenbidpojeaaGreatDoor
/-
  Letters that are sent, all of them or none: the program's outbox.
-/
namespace Go.Proofs.YtngnenbidpojeaaGreatDoor
set_option maxRecDepth 100000
open Go.RowKit
set_option linter.unusedVariables false
theorem rowSn_at' {w : World} {a : Option Addr} {n c : Nat} {C : List Sn} (h : ReadsR 3 w (.slice a n c) (rowS C)) {j : Nat} {x : Sn} (hj : C[j]? = some x) : ∃ b o, a = some ⟨b, o, none⟩ ∧ w.cell? ⟨b, o + j * 3, none⟩ = some (.string ⟨x.to.toArray⟩) ∧ w.cell? ⟨b, o + j * 3 + 1, none⟩ = some (.int .i64 x.kind) ∧ w.cell? ⟨b, o + j * 3 + 2, none⟩ = some (.int .i64 x.arg) := by
  obtain ⟨b, o, c', e, hc⟩ := h.at j [.string ⟨x.to.toArray⟩, .int .i64 x.kind, .int .i64 x.arg] (by simp [rowS, hj])
  simp only [Value.slice.injEq] at e
  exact ⟨b, o, e.1, hc 0 _ rfl, hc 1 _ rfl, hc 2 _ rfl⟩
/-- The program's outbox o at po. -/
def Ox (w : World) (po : Nat) (o : Ob) : Prop := ∃ ys, IsO w po o.own o.K ys ∧ ys.map ot = o.L
/-- What a Send answers, and leaves. -/
def SndP (w : World) (po : Nat) (o : Ob) (to : List UInt8) (kind arg : Int) (e : Ending) (w' : World) : Prop :=
  (okSnd o to = true ∧ (∃ r, e = .returned (.tuple #[r, .int .i64 0])) ∧ Ox w' po (sendO o to kind [arg]) ∧ Kept [po] w w') ∨
  (okSnd o to = false ∧ (∃ r, e = .returned (.tuple #[r, .int .i64 1]) ∨ e = .returned (.tuple #[r, .int .i64 6])) ∧ Kept [po] w w')
section
variable {w w' : World} {po : Nat} {o : Ob}
theorem Ox.kept0 (h : Ox w po o) (k : Kept [] w w') : Ox w' po o := by
  obtain ⟨ys, h1, h2⟩ := h
  exact ⟨ys, h1.kept0 k, h2⟩
theorem Ox.lt (h : Ox w po o) : po < w.heap.size := by
  obtain ⟨ys, h1, h2⟩ := h
  obtain ⟨cs, hb⟩ := h1.bx
  exact lt_of_block hb
theorem sendP_any (h : Ox w po o) (g : GoodO o) {B : Nat} (hB : SerB o B) (h6 : B < 4611686018427387904) (to : List UInt8) (ht : to.length ≤ 1000) (kind arg : Int) (ad : Option Addr)
    (hx : ∀ W, Kept [po] w W → ReadsJ W (.slice ad 1 1) [arg]) : Calls Tryz.prog 26 #[Ptr po, Sv to, .int .i64 kind, .slice ad 1 1] w (SndP w po o to kind arg) := by
  obtain ⟨ys, h5, hy⟩ := h
  have hown : (!o.own.isEmpty) = true := by have := g.ne.1; cases h : o.own with | nil => exact absurd h this | cons _ _ => rfl
  have hyl : ys.length = o.L.length := by rw [← hy, List.length_map]
  have hln := g.ln
  have hkn := g.kn
  by_cases hc : okSnd o to = true
  · obtain ⟨c1, c2, c3⟩ := (okSnd_iff o to).1 hc
    have hse := hB.le to
    have h64 : hasK o.K to = true ∨ o.K.length < 64 := by rcases c3 with h | h; exact .inl h; right; omega
    refine (send20_ok h5 g.rise g.ne.1 (by have := g.ne.2; omega) to ⟨o.own, ser o.K to + 1, kind, [arg]⟩ ad 1 c1 (by simp) hx rfl rfl (by omega) h64 (by omega)).mono ?_
    rintro e w1 ⟨rfl, a1, c1', hO1, k1, -⟩
    exact .inl ⟨hc, ⟨_, rfl⟩, ⟨_, hO1, by simp [sendO, hy, ot]⟩, k1⟩
  · have hc' : okSnd o to = false := by simpa using hc
    by_cases hr : isKey to = false
    · refine (send20_arg to kind ad 1 1 _ (by omega) true (by have := owned34 h5; rwa [hown] at this) (by omega) (.inr (.inl hr))).mono ?_
      rintro e w1 ⟨rfl, rfl⟩
      exact .inr ⟨hc', ⟨_, .inl rfl⟩, Kept.refl _ _⟩
    · have hkey : isKey to = true := by simpa using hr
      refine (send20_full h5 g.rise g.ne.1 to kind ad 1 1 hkey (by omega) ?_).mono ?_
      · rw [hyl]
        by_cases h32 : o.L.length = 32
        · exact .inl h32
        · right
          by_cases h64 : o.K.length = 64
          · cases hh : hasK o.K to with
            | true => exact absurd ((okSnd_iff o to).2 ⟨hkey, h32, .inl hh⟩) hc
            | false => exact ⟨rfl, h64⟩
          · exact absurd ((okSnd_iff o to).2 ⟨hkey, h32, .inr h64⟩) hc
      · rintro e w1 ⟨rfl, k1⟩
        exact .inr ⟨hc', ⟨_, .inr rfl⟩, k1.mono (by simp)⟩
/-- What all of them come to. -/
def SndL (w : World) (po : Nat) (o : Ob) (l : List Sn) (e : Ending) (w' : World) : Prop :=
  (∃ q, sendL o l = some q ∧ e = .returned (.bool true) ∧ Ox w' po q ∧ Kept [po] w w') ∨ (sendL o l = none ∧ e = .returned (.bool false) ∧ Kept [po] w w')
set_option maxHeartbeats 4000000 in
theorem send98 (h : Ox w po o) (g : GoodO o) {B : Nat} (hB : SerB o B) (h6 : B ≤ 2000000) {sa : Option Addr} {n sc : Nat} {l : List Sn} (hn : n = l.length) (hl : n ≤ 900)
    (hr : ∀ W, Kept [po] w W → ReadsR 3 W (.slice sa n sc) (rowS l)) (hf : ∀ s ∈ l, s.to.length ≤ 40 ∧ I64 s.kind ∧ I64 s.arg) : Calls Tryz.prog 98 #[Ptr po, .slice sa n sc] w (SndL w po o l) := by
  have HR := Hid.mk hr
  have HF := Hid.mk hf
  have HN := Hid.mk hn
  have HH := Hid.mk h
  have HG : Hid (∀ k q, sendL o (l.take k) = some q → GoodO q ∧ SerB q (B + 900)) := Hid.mk fun k q hq => by
    have hk : (l.take k).length ≤ 900 := by rw [List.length_take]; omega
    have := sendL_good (l.take k) o q B g hB (fun s hs => (hf s (List.mem_of_mem_take hs)).2) (by omega) hq
    exact ⟨this.1, fun y hy => by have := this.2 y hy; omega⟩
  clear hr hf hn h g hB
  go_enter Tryz.func98, Tryz.ntmps98
  go_wp2_with fail
  go_loopw [11] (fun i wr => ∃ k : Nat, i = .int .i64 (k : Int) ∧ k ≤ n ∧ Hid (∃ q, sendL o (l.take k) = some q ∧ Ox wr po q ∧ Kept [po] w wr)) (fun i _ => n - (intOf i).toNat)
  case atStart => exact ⟨0, rfl, by omega, Hid.mk ⟨o, rfl, HH.out, Kept.refl _ _⟩⟩
  case round =>
    obtain ⟨k, rfl, hk, H⟩ := hrel
    by_cases hlt : k < n
    · obtain ⟨s, hs⟩ : ∃ s, l[k]? = some s := ⟨_, List.getElem?_eq_getElem (by have := HN.out; omega)⟩
      obtain ⟨q, hq, hO, kk⟩ := H.out
      obtain ⟨g1, b1⟩ := HG.out k q hq
      obtain ⟨b, o', rfl, d0, d1, d2⟩ := rowSn_at' (HR.out wr kk) hs
      have hfs := HF.out s (List.mem_of_getElem? hs)
      have HC : Hid (∀ W, Kept [] wr W → Calls Tryz.prog 26 #[Ptr po, Sv s.to, .int .i64 s.kind, .slice (some ⟨W.heap.size, 0, none⟩) 1 1] (W.alloc (.cells #[.int .i64 s.arg] 2)) (SndP (W.alloc (.cells #[.int .i64 s.arg] 2)) po q s.to s.kind s.arg)) := Hid.mk fun W kW => by
        have h1 := (hO.kept0 kW).kept0 ((Kept.refl [] W).alloc (.cells #[.int .i64 s.arg] 2))
        have h2 := (hO.kept0 kW).lt
        exact sendP_any h1 g1 b1 (by omega) s.to (by omega) s.kind s.arg _ (fun V kV => ((ownsJ_one W s.arg).kept kV (fun x hx hm => by simp [Value.ownBlock] at hx hm; omega)).reads)
      have HQ : Hid (∀ V W, Kept [] wr V → Kept [po] V W → Kept [po] w W) := Hid.mk fun V W k1 k2 => (kk.trans k1 (by simp)).trans k2 (fun x hx => .inl hx)
      have HS : Hid (l.take (k + 1) = l.take k ++ [s]) := Hid.mk (by rw [List.take_add_one, hs]; rfl)
      have HSQ := Hid.mk hq
      have hkI : (k : Int) < (n : Int) := by omega
      clear hs hq hO kk g1 b1 hfs H
      go_wp2_with fail
      have hc := HC.out _ ((Kept.refl [] wr).alloc (.cells #[.string ⟨s.to.toArray⟩, .int .i64 s.kind, .int .i64 s.arg] 235))
      rw [show (wr.alloc (.cells #[.string ⟨s.to.toArray⟩, .int .i64 s.kind, .int .i64 s.arg] 235)).heap.size = wr.heap.size + 1 by simp] at hc
      have KA := Hid.mk (((Kept.refl [] wr).alloc (.cells #[.string ⟨s.to.toArray⟩, .int .i64 s.kind, .int .i64 s.arg] 235)).alloc (.cells #[.int .i64 s.arg] 2))
      refine hc.mono ?_
      clear hc HC d0 d1 d2
      rintro e w2 (⟨hok, ⟨r, rfl⟩, hO2, k2⟩ | ⟨hok, ⟨r, hr⟩, k2⟩)
      · have H2 : Hid (∃ q, sendL o (l.take (k + 1)) = some q ∧ Ox w2 po q ∧ Kept [po] w w2) := Hid.mk ⟨_, by rw [HS.out, sendL_snoc, HSQ.out, Option.bind_some, if_pos hok], hO2, HQ.out _ _ KA.out k2⟩
        clear hok hO2 k2 KA HQ HS HSQ
        go_wp2_with fail
        go_roundw
        case rel => exact ⟨k + 1, by go_num, by omega, H2⟩
        case measure => simp [intOf]; omega
      · have H2 : Hid (sendL o l = none ∧ Kept [po] w w2) := by
          have e1 : sendL o (l.take (k + 1)) = none := by rw [HS.out, sendL_snoc, HSQ.out, Option.bind_some, if_neg (by rw [hok]; simp)]
          have := sendL_none (l.drop (k + 1)) _ _ e1
          rw [List.take_append_drop] at this
          exact Hid.mk ⟨this, HQ.out _ _ KA.out k2⟩
        clear hok k2 KA HQ HS HSQ
        rcases hr with rfl | rfl
        all_goals
          go_wp2_with fail
          go_ret
          exact .inr ⟨H2.out.1, rfl, H2.out.2⟩
    · obtain rfl : k = n := by omega
      have hkI : ((k : Int) < (k : Int)) = False := eq_false (by omega)
      have H2 : Hid (∃ q, sendL o l = some q ∧ Ox wr po q ∧ Kept [po] w wr) := by
        have := H.out
        rwa [List.take_of_length_le (by have := HN.out; omega)] at this
      clear H
      go_wp2_with fail
      go_ret
      obtain ⟨q, h1, h2, h3⟩ := H2.out
      exact .inl ⟨q, h1, rfl, h2, h3⟩
set_option maxHeartbeats 1000000 in
/-- Whether all of them can be sent. -/
theorem canSend97 (h : Ox w po o) (g : GoodO o) {B : Nat} (hB : SerB o B) (h6 : B ≤ 2000000) {sa : Option Addr} {n sc : Nat} {l : List Sn} (hn : n = l.length) (hl : n ≤ 900)
    (hr : ReadsR 3 w (.slice sa n sc) (rowS l)) (hf : ∀ s ∈ l, s.to.length ≤ 40 ∧ I64 s.kind ∧ I64 s.arg) : Calls Tryz.prog 97 #[Ptr po, .slice sa n sc] w fun e w' => e = .returned (.bool (sendL o l).isSome) ∧ Kept [] w w' := by
  have HE : Hid (Calls Tryz.prog 67 #[Ptr po] w fun e w' => NewB w (encO o) e w') := by
    obtain ⟨ys, h1, h2⟩ := h
    have := encode14 h1 (by rw [h2]; exact g)
    rw [h2] at this
    exact Hid.mk this
  have HLn : Hid ((encO o).length ≤ 100000) := Hid.mk (Nat.le_trans (encO_length g) (by omega))
  have HD : Hid (∀ W v, Kept [] w W → Reads W v (encO o) → Calls Tryz.prog 118 #[v] W fun e w' => ∃ q, e = .returned (.tuple #[Ptr q, .int .i64 0]) ∧ Ox w' q o ∧ Kept [] W w' ∧ W.heap.size ≤ q) := Hid.mk fun W v k hv => by
    refine (decode16 v (encO o) hv (by have := HLn.out; omega)).mono ?_
    rintro e w1 (⟨h1, -, -⟩ | ⟨q, o', qs, h1, rfl, h2, h3, h4, h5⟩)
    · rw [decO_back g] at h1; cases h1
    · rw [decO_back g] at h1
      cases h1
      exact ⟨q, rfl, ⟨qs, h2, h3⟩, h4, h5⟩
  have HS : Hid (∀ W q, Kept [] w W → Ox W q o → w.heap.size ≤ q → Calls Tryz.prog 98 #[Ptr q, .slice sa n sc] W fun e w' => e = .returned (.bool (sendL o l).isSome) ∧ Kept [] w w') := Hid.mk fun W q k hO hq => by
    refine (send98 hO g hB h6 hn hl (fun V kV => hr.turn fun x o2 y hx hy _ => ?_) hf).mono ?_
    · have hlt := World.block_lt_of_cell? w _ hy
      dsimp only at hlt
      rw [kV.cell (p := ⟨x, o2, none⟩) (by have := k.size; dsimp only; omega) (by simp; omega), k.cell hlt (by simp)]
      exact hy
    · rintro e w1 (⟨q', h1, rfl, h2, h3⟩ | ⟨h1, rfl, h3⟩)
      · exact ⟨by rw [h1]; rfl, k.trans h3 (fun x hx => by simp at hx; subst hx; exact .inr hq)⟩
      · exact ⟨by rw [h1]; rfl, k.trans h3 (fun x hx => by simp at hx; subst hx; exact .inr hq)⟩
  clear h g hB hr hf hn hl h6
  generalize encO o = B0 at *
  generalize (sendL o l).isSome = R0 at *
  go_enter Tryz.func97, Tryz.ntmps97
  go_wp2_with fail
  refine HE.out.mono ?_
  rintro e w1 ⟨v, rfl, h1, k1, -⟩
  have HD1 := Hid.mk (HD.out w1 v k1 h1.reads)
  have HK := Hid.mk k1
  clear h1 k1 HE
  go_wp2_with fail
  refine HD1.out.mono ?_
  rintro e w2 ⟨q, rfl, h2, k2, hq⟩
  have HS2 := Hid.mk (HS.out w2 q (HK.out.trans k2 (by simp)) h2 (by have := HK.out.size; omega))
  clear h2 k2 hq HD1 HD HS
  go_wp2_with (go_at_call 98; refine HS2.out.mono ?_; rintro e w3 ⟨rfl, k3⟩)
  go_ret
  exact ⟨rfl, k3⟩
end
end Go.Proofs.YtngnenbidpojeaaGreatDoor
