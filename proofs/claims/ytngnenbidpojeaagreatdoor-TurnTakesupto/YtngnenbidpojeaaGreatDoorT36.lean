import Derived.Test.YtngnenbidpojeaaGreatDoorT06
import Derived.Test.YtngnenbidpojeaaGreatDoorT16
import Derived.Test.YtngnenbidpojeaaGreatDoorT17
import Derived.Test.YtngnenbidpojeaaGreatDoorT18
import Derived.Test.YtngnenbidpojeaaGreatDoorT19
import Derived.Test.YtngnenbidpojeaaGreatDoorT24
import Derived.Test.YtngnenbidpojeaaGreatDoorT33
import Derived.Test.YtngnenbidpojeaaGreatDoorT35
/-
 Decode of an outbox.
-/
namespace Go.Proofs.YtngnenbidpojeaaGreatDoor
set_option maxRecDepth 100000
open Go.RowKit
set_option linter.unusedVariables false
theorem rkN_fwd {l r : List UInt8} {K : List La} (h : rkN l = some (K, r)) : Rise K ∧ (∀ y ∈ K, isKey y.k = true ∧ y.s ≠ 0 ∧ U64 y.s) ∧ K.length ≤ 64 ∧ r.length ≤ l.length := by
 unfold rkN at h
 cases hn : num l with
 | none => rw [hn] at h; cases h
 | some b =>
  obtain ⟨n, r1⟩ := b
  rw [hn] at h
  change (if 64 < n then none else rks n [] r1) = _ at h
  split at h
  ·cases h
  ·obtain ⟨X, x1, x2, x3, x4, x5⟩ := rks_fwd n [] r1 K r List.Pairwise.nil h
   rw [List.nil_append] at x2
   subst x2
   refine ⟨x4, x5, by omega, ?_⟩
   have := congrArg List.length (num_fwd hn)
   have := congrArg List.length x3
   simp only [List.length_append] at *
   omega
theorem decO_eq (l : List UInt8) : decO l = (txt l).bind fun a => if isKey a.1 = false then none else (rkN a.2).bind fun c => (rlN a.1 c.2).bind fun e => if e.2 = [] ∧ ordB c.1 e.1.reverse = true then some ⟨a.1, c.1, e.1⟩ else none := by
 unfold decO
 cases ht : txt l with
 | none => rfl
 | some a =>
  obtain ⟨own, l1⟩ := a
  dsimp only [Option.bind_some]
  cases hk : isKey own with
  | false =>
   rw [if_pos rfl]
   cases hn : num l1 with
   | none => rfl
   | some b =>
    dsimp only [Option.bind_some]
    rw [if_pos (.inl rfl)]
  | true =>
   rw [if_neg (by simp)]
   unfold rkN
   cases hn : num l1 with
   | none => rfl
   | some b =>
    obtain ⟨n, r1⟩ := b
    dsimp only [Option.bind_some]
    by_cases h64 : 64 < n
    ·rw [if_pos (.inr h64), if_pos h64]; rfl
    ·rw [if_neg (by rintro (h | h); cases h; exact h64 h), if_neg h64]
     cases hr : rks n [] r1 with
     | none => rfl
     | some c =>
      obtain ⟨K, r2⟩ := c
      have hrise := (rks_fwd n [] r1 K r2 List.Pairwise.nil hr)
      obtain ⟨X, -, -, -, x4, -⟩ := hrise
      dsimp only [Option.bind_some]
      unfold rlN
      cases hm : num r2 with
      | none => rfl
      | some d =>
       obtain ⟨m, r3⟩ := d
       dsimp only [Option.bind_some]
       by_cases h32 : 32 < m
       ·rw [if_pos h32, if_pos h32]; rfl
       ·rw [if_neg h32, if_neg h32, rls_rlp own K m [] r3 (by simp)]
        cases hp : rlp own m [] r3 with
        | none => rfl
        | some e =>
         obtain ⟨L, r4⟩ := e
         dsimp only [Option.bind_some]
         rw [ordB_ord x4]
         by_cases hall : ∀ y ∈ L, hasK K y.to = true
         ·rw [if_pos hall]
          dsimp only [Option.bind_some]
          rw [decide_eq_true hall, Bool.true_and]
         ·rw [if_neg hall]
          have : decide (∀ y ∈ L, hasK K y.to = true) = false := by simpa using hall
          rw [this]
          simp
section
variable {w0 w w' : World} {p q : Nat} {own : List UInt8} {K : List La} {qs : List Yq} {l : List UInt8} {bad : Bool}
def DecO (w : World) (l : List UInt8) (e : Ending) (w' : World) : Prop :=
 (decO l = none ∧ e = .returned (.tuple #[.pointer none, .int .i64 2]) ∧ Kept [] w w') ∨
 (∃ p o qs, decO l = some o ∧ e = .returned (.tuple #[.pointer (some ⟨p, 0, none⟩), .int .i64 0]) ∧ IsO w' p o.own o.K qs ∧ qs.map ot = o.L ∧ Kept [] w w' ∧ w.heap.size ≤ p)
set_option maxHeartbeats 1000000 in
theorem readW46_bad (h : St w0 w p q own K [] [] true) : Calls Tryz.prog 142 #[.pointer (some ⟨p, 0, none⟩), .pointer (some ⟨q, 0, none⟩)] w fun e w' => e = .returned (.bool true) ∧ St w0 w' p q own K [] [] true := by
 have hA := st_num h
 rw [rnum_bad2] at hA
 have HA := Hid.mk hA
 clear h hA
 go_enter Tryz.func142, Tryz.ntmps142
 go_wp2_with fail
 refine HA.out.mono ?_
 rintro e w1 ⟨rfl, h1, -⟩
 have HS := Hid.mk h1
 clear h1 HA
 dsimp only
 go_wp2_with fail
 go_loopw [14] (fun i wr => i = .int .u64 0 ∧ Hid (St w0 wr p q own K [] [] true)) (fun _ _ => 0)
 case atStart => exact ⟨rfl, HS⟩
 case round =>
  obtain ⟨rfl, hS⟩ := hrel
  go_wp2_with fail
  go_ret
  exact ⟨rfl, hS.out⟩
theorem St.left (h : St w0 w p q own K qs l true) : l = [] := by
 obtain ⟨v, h1, -⟩ := h.rd
 exact h1.none rfl
theorem st_end (h : St w0 w p q own K qs l bad) : Calls Tryz.prog 73 #[.pointer (some ⟨q, 0, none⟩)] w fun e w' => e = .returned (.bool (!bad && l.isEmpty)) ∧ w = w' := by
 obtain ⟨v, h1, -⟩ := h.rd
 exact end_any q v l bad w h1
set_option maxHeartbeats 4000000 in
theorem decode16 (v : Value) (l : List UInt8) (hr : Reads w v l) (hl : l.length ≤ 140737488355328) : Calls Tryz.prog 118 #[v] w fun e w' => DecO w l e w' := by
 have HN : Hid (∀ W, decO l = none → Kept [] w W → DecO w l (.returned (.tuple #[.pointer none, .int .i64 2])) W) := fun W h k => .inl ⟨h, rfl, k⟩
 have HY : Hid (∀ W p o qs, decO l = some o → IsO W p o.own o.K qs → qs.map ot = o.L → Kept [] w W → w.heap.size ≤ p → DecO w l (.returned (.tuple #[.pointer (some ⟨p, 0, none⟩), .int .i64 0])) W) := fun W p o qs h1 h2 h3 h4 h5 => .inr ⟨p, o, qs, h1, rfl, h2, h3, h4, h5⟩
 generalize DecO w l = R at HN HY
 have HR := Hid.mk hr
 clear hr
 go_enter Tryz.func118, Tryz.ntmps118
 go_wp2_with fail
 refine (newr_in v l w HR.out hl).mono ?_
 rintro e w1 ⟨q, v1, rfl, hR1, k1, hf1, hq1, hin1⟩
 have HT := Hid.mk (rtext_any q v1 l false w1 hR1)
 clear hR1
 go_wp2_with fail
 refine HT.out.mono ?_
 rintro e w2 ⟨rfl, v2, hR2, k2, hi2⟩
 have k02 : Kept [] w w2 := k1.trans k2 (fun x hx => by simp at hx; subst hx; exact .inr hq1)
 have hkl := (rtext_rest l false).1
 have hrl := (rtext_rest l false).2
 clear HT
 cases ht : txt l with
 | none =>
  have HO : Hid (decO l = none) := by show _ = _; rw [decO_eq, ht]; rfl
  rw [txt_none ht]
  have H11 := Hid.mk (new11_no (w := w2) [] rfl (by simp))
  have HS := Hid.mk (HN.out _ HO.out k02)
  clear HN HY HO ht hR2 k2
  dsimp only
  go_wp2_with fail
  refine H11.out.mono ?_
  rintro e w3 ⟨rfl, rfl⟩
  go_wp2_with fail
  exact HS.out
 | some a =>
  obtain ⟨own, r⟩ := a
  have HDE : Hid (decO l = if isKey own = false then none else (rkN r).bind fun c => (rlN own c.2).bind fun e => if e.2 = [] ∧ ordB c.1 e.1.reverse = true then some ⟨own, c.1, e.1⟩ else none) := by show _ = _; rw [decO_eq, ht]; rfl
  rw [txt_some ht] at hR2 hkl hrl ⊢
  dsimp only at hR2 hkl hrl
  clear ht
  cases hk : isKey own with
  | false =>
   have HO : Hid (decO l = none) := by show _ = _; rw [HDE.out, if_pos hk]
   have H11 := Hid.mk (new11_no (w := w2) own hk (by omega))
   have HS := Hid.mk (HN.out _ HO.out k02)
   clear HN HY HO hR2 k2 hk HDE
   dsimp only
   go_wp2_with fail
   refine H11.out.mono ?_
   rintro e w3 ⟨rfl, rfl⟩
   go_wp2_with fail
   exact HS.out
  | true =>
   rw [hk] at HDE
   have HDE2 : Hid (decO l = (rkN r).bind fun c => (rlN own c.2).bind fun e => if e.2 = [] ∧ ordB c.1 e.1.reverse = true then some ⟨own, c.1, e.1⟩ else none) := by show _ = _; rw [HDE.out, if_neg (by simp)]
   have H11 := Hid.mk (new11 (w := w2) own hk)
   have hR2' := Hid.mk hR2
   have hql : q < w2.heap.size := hR2.lt
   have hin2 : ∀ g, v2.ownBlock = some g → g < w2.heap.size := fun g hg => by have := hin1 g (hi2 g hg); have := k2.size; omega
   have hw12 := k1.size
   clear hR2 hk HDE
   dsimp only
   go_wp2_with fail
   refine H11.out.mono ?_
   rintro e w3 ⟨p, rfl, hO3, k3, hp3⟩
   have hwp : w.heap.size ≤ p := by have := k02.size; omega
   have h3 : St w w3 p q own [] [] r false := ⟨hO3, ⟨v2, hR2'.out.kept k3 (by simp) (by simp), fun e => by have := hin2 p e; omega⟩, hq1, hwp, k02.trans k3 (by simp)⟩
   have H45 := Hid.mk (readT45 h3 (by omega))
   clear h3 hO3 k3 H11 hR2' k2 k1 hi2 hin1 hin2
   go_wp2_with fail
   refine H45.out.mono ?_
   rintro e w4 (⟨K, r2, hrk, rfl, h4⟩ | ⟨hrk, b4, K, r2, bad4, rfl, h4, hb4⟩)
   ·obtain ⟨hri, hkeys, hK64, hr2l⟩ := rkN_fwd hrk
    have HDE3 : Hid (decO l = (rlN own r2).bind fun e => if e.2 = [] ∧ ordB K e.1.reverse = true then some ⟨own, K, e.1⟩ else none) := by show _ = _; rw [HDE2.out, hrk]; rfl
    have H46 := Hid.mk (readW46 h4 (by omega))
    clear h4 hrk HDE2 H45
    go_wp2_with fail
    refine H46.out.mono ?_
    rintro e w5 (⟨qs, r3, hrl3, rfl, h5⟩ | ⟨hrl3, b5, qs, r3, bad5, rfl, h5, hb5⟩)
    ·have HDE4 : Hid (decO l = if r3 = [] ∧ ordB K (qs.map ot).reverse = true then some ⟨own, K, qs.map ot⟩ else none) := by show _ = _; rw [HDE3.out, hrl3]; rfl
     have H47 := Hid.mk (st_end h5)
     have H5 := Hid.mk h5
     clear h5 hrl3 HDE3 H46
     go_wp2_with fail
     refine H47.out.mono ?_
     rintro e w6 ⟨rfl, rfl⟩
     cases hre : r3 with
     | cons c r4 =>
      have HO : Hid (decO l = none) := by show _ = _; rw [HDE4.out, if_neg]; rintro ⟨h, -⟩; rw [hre] at h; cases h
      have HS := Hid.mk (HN.out _ HO.out H5.out.k)
      have e7 : (!false && (c :: r4).isEmpty) = false := rfl
      rw [e7]
      clear HN HY HO H5 HDE4 hre H47
      go_wp2_with fail
      exact HS.out
     | nil =>
      have e7 : (!false && ([] : List UInt8).isEmpty) = true := rfl
      rw [e7]
      have H48 := Hid.mk (inOrder48 H5.out.isO hri (fun y hy => (hkeys y hy).2.2))
      subst hre
      clear H47
      go_wp2_with fail
      refine H48.out.mono ?_
      rintro e w7 ⟨rfl, k7⟩
      have h7 := H5.out.kept0 k7
      cases hor : ordB K (qs.map ot).reverse with
      | false =>
       have HO : Hid (decO l = none) := by show _ = _; rw [HDE4.out, if_neg]; rintro ⟨-, h⟩; rw [hor] at h; cases h
       have HS := Hid.mk (HN.out _ HO.out h7.k)
       clear HN HY HO H5 HDE4 hor H48 h7
       go_wp2_with fail
       exact HS.out
      | true =>
       have HO : Hid (decO l = some ⟨own, K, qs.map ot⟩) := by show _ = _; rw [HDE4.out, if_pos (by first | exact ⟨rfl, hor⟩ | exact ⟨trivial, hor⟩)]
       have HS := Hid.mk (HY.out _ p ⟨own, K, qs.map ot⟩ qs HO.out h7.isO rfl h7.k hwp)
       clear HN HY HO H5 HDE4 hor H48 h7
       go_wp2_with fail
       exact HS.out
    ·have HO : Hid (decO l = none) := by show _ = _; rw [HDE3.out, hrl3]; rfl
     cases b5 with
     | false =>
      have HS := Hid.mk (HN.out _ HO.out h5.k)
      clear HN HY HO h5 HDE3 hrl3 H46 hb5
      go_wp2_with fail
      exact HS.out
     | true =>
      obtain rfl := hb5 rfl
      have H47 := Hid.mk (st_end h5)
      have HS := Hid.mk (HN.out _ HO.out h5.k)
      have e7 : (!true && r3.isEmpty) = false := rfl
      rw [e7] at H47
      clear HN HY HO h5 HDE3 hrl3 H46 hb5 e7
      go_wp2_with fail
      refine H47.out.mono ?_
      rintro e w6 ⟨rfl, rfl⟩
      go_wp2_with fail
      exact HS.out
   ·have HO : Hid (decO l = none) := by show _ = _; rw [HDE2.out, hrk]; rfl
    cases b4 with
    | false =>
     have HS := Hid.mk (HN.out _ HO.out h4.k)
     clear HN HY HO h4 HDE2 hrk H45 hb4
     go_wp2_with fail
     exact HS.out
    | true =>
     obtain rfl := hb4 rfl
     obtain rfl := h4.left
     have H46 := Hid.mk (readW46_bad h4)
     clear h4 HDE2 hrk H45 hb4
     go_wp2_with fail
     refine H46.out.mono ?_
     rintro e w5 ⟨rfl, h5⟩
     have H47 := Hid.mk (st_end h5)
     have HS := Hid.mk (HN.out _ HO.out h5.k)
     have e7 : (!true && ([] : List UInt8).isEmpty) = false := rfl
     rw [e7] at H47
     clear HN HY HO h5 H46 e7
     go_wp2_with fail
     refine H47.out.mono ?_
     rintro e w6 ⟨rfl, rfl⟩
     go_wp2_with fail
     exact HS.out
end
theorem rowSn_at' {w : World} {a : Option Addr} {n c : Nat} {C : List Sn} (h : ReadsR 3 w (.slice a n c) (rowS C)) {j : Nat} {x : Sn} (hj : C[j]? = some x) : ∃ b o, a = some ⟨b, o, none⟩ ∧ w.cell? ⟨b, o + j * 3, none⟩ = some (.string ⟨x.to.toArray⟩) ∧ w.cell? ⟨b, o + j * 3 + 1, none⟩ = some (.int .i64 x.kind) ∧ w.cell? ⟨b, o + j * 3 + 2, none⟩ = some (.int .i64 x.arg) := by
 obtain ⟨b, o, c', e, hc⟩ := h.at j [.string ⟨x.to.toArray⟩, .int .i64 x.kind, .int .i64 x.arg] (by simp [rowS, hj])
 simp only [Value.slice.injEq] at e
 exact ⟨b, o, e.1, hc 0 _ rfl, hc 1 _ rfl, hc 2 _ rfl⟩
def Ox (w : World) (po : Nat) (o : Ob) : Prop := ∃ ys, IsO w po o.own o.K ys ∧ ys.map ot = o.L
def SndP (w : World) (po : Nat) (o : Ob) (to : List UInt8) (kind arg : Int) (e : Ending) (w' : World) : Prop :=
 (okSnd o to = true ∧ (∃ r, e = .returned (.tuple #[r, .int .i64 0])) ∧ Ox w' po (sendO o to kind [arg]) ∧ Kept [po] w w') ∨
 (okSnd o to = false ∧ (∃ r, e = .returned (.tuple #[r, .int .i64 1]) ∨ e = .returned (.tuple #[r, .int .i64 6])) ∧ Kept [po] w w')
section
variable {w w' : World} {po : Nat} {o : Ob}
theorem Ox.kept0 (h : Ox w po o) (k : Kept [] w w') : Ox w' po o := by
 obtain ⟨ys, h1, h2⟩ := h
 exact ⟨ys, h1.kept0 k, h2⟩
theorem Ox.lt (h : Ox w po o) : po < w.heap.size := by
 obtain ⟨ys, h1, h2⟩ := h
 obtain ⟨cs, hb⟩ := h1.bx
 exact lt_of_block hb
theorem sendP_any (h : Ox w po o) (g : GoodO o) {B : Nat} (hB : SerB o B) (h6 : B < 4611686018427387904) (to : List UInt8) (ht : to.length ≤ 1000) (kind arg : Int) (ad : Option Addr)
  (hx : ∀ W, Kept [po] w W → ReadsJ W (.slice ad 1 1) [arg]) : Calls Tryz.prog 26 #[Ptr po, Sv to, .int .i64 kind, .slice ad 1 1] w (SndP w po o to kind arg) := by
 obtain ⟨ys, h5, hy⟩ := h
 have hown : (!o.own.isEmpty) = true := by have := g.ne.1; cases h : o.own with | nil => exact absurd h this | cons _ _ => rfl
 have hyl : ys.length = o.L.length := by rw [← hy, List.length_map]
 have hln := g.ln
 have hkn := g.kn
 by_cases hc : okSnd o to = true
 ·obtain ⟨c1, c2, c3⟩ := (okSnd_iff o to).1 hc
  have hse := hB.le to
  have h64 : hasK o.K to = true ∨ o.K.length < 64 := by rcases c3 with h | h; exact .inl h; right; omega
  refine (send20_ok h5 g.rise g.ne.1 (by have := g.ne.2; omega) to ⟨o.own, ser o.K to + 1, kind, [arg]⟩ ad 1 c1 (by simp) hx rfl rfl (by omega) h64 (by omega)).mono ?_
  rintro e w1 ⟨rfl, a1, c1', hO1, k1, -⟩
  exact .inl ⟨hc, ⟨_, rfl⟩, ⟨_, hO1, by simp [sendO, hy, ot]⟩, k1⟩
 ·have hc' : okSnd o to = false := by simpa using hc
  by_cases hr : isKey to = false
  ·refine (send20_arg to kind ad 1 1 _ (by omega) true (by have := owned34 h5; rwa [hown] at this) (by omega) (.inr (.inl hr))).mono ?_
   rintro e w1 ⟨rfl, rfl⟩
   exact .inr ⟨hc', ⟨_, .inl rfl⟩, Kept.refl _ _⟩
  ·have hkey : isKey to = true := by simpa using hr
   refine (send20_full h5 g.rise g.ne.1 to kind ad 1 1 hkey (by omega) ?_).mono ?_
   ·rw [hyl]
    by_cases h32 : o.L.length = 32
    ·exact .inl h32
    ·right
     by_cases h64 : o.K.length = 64
     ·cases hh : hasK o.K to with
      | true => exact absurd ((okSnd_iff o to).2 ⟨hkey, h32, .inl hh⟩) hc
      | false => exact ⟨rfl, h64⟩
     ·exact absurd ((okSnd_iff o to).2 ⟨hkey, h32, .inr h64⟩) hc
   ·rintro e w1 ⟨rfl, k1⟩
    exact .inr ⟨hc', ⟨_, .inr rfl⟩, k1.mono (by simp)⟩
def SndL (w : World) (po : Nat) (o : Ob) (l : List Sn) (e : Ending) (w' : World) : Prop :=
 (∃ q, sendL o l = some q ∧ e = .returned (.bool true) ∧ Ox w' po q ∧ Kept [po] w w') ∨ (sendL o l = none ∧ e = .returned (.bool false) ∧ Kept [po] w w')
set_option maxHeartbeats 4000000 in
theorem send98 (h : Ox w po o) (g : GoodO o) {B : Nat} (hB : SerB o B) (h6 : B ≤ 2000000) {sa : Option Addr} {n sc : Nat} {l : List Sn} (hn : n = l.length) (hl : n ≤ 900)
  (hr : ∀ W, Kept [po] w W → ReadsR 3 W (.slice sa n sc) (rowS l)) (hf : ∀ s ∈ l, s.to.length ≤ 40 ∧ I64 s.kind ∧ I64 s.arg) : Calls Tryz.prog 98 #[Ptr po, .slice sa n sc] w (SndL w po o l) := by
 have HR := Hid.mk hr
 have HF := Hid.mk hf
 have HN := Hid.mk hn
 have HH := Hid.mk h
 have HG : Hid (∀ k q, sendL o (l.take k) = some q → GoodO q ∧ SerB q (B + 900)) := Hid.mk fun k q hq => by
  have hk : (l.take k).length ≤ 900 := by rw [List.length_take]; omega
  have := sendL_good (l.take k) o q B g hB (fun s hs => (hf s (List.mem_of_mem_take hs)).2) (by omega) hq
  exact ⟨this.1, fun y hy => by have := this.2 y hy; omega⟩
 clear hr hf hn h g hB
 go_enter Tryz.func98, Tryz.ntmps98
 go_wp2_with fail
 go_loopw [11] (fun i wr => ∃ k : Nat, i = .int .i64 (k : Int) ∧ k ≤ n ∧ Hid (∃ q, sendL o (l.take k) = some q ∧ Ox wr po q ∧ Kept [po] w wr)) (fun i _ => n - (intOf i).toNat)
 case atStart => exact ⟨0, rfl, by omega, Hid.mk ⟨o, rfl, HH.out, Kept.refl _ _⟩⟩
 case round =>
  obtain ⟨k, rfl, hk, H⟩ := hrel
  by_cases hlt : k < n
  ·obtain ⟨s, hs⟩ : ∃ s, l[k]? = some s := ⟨_, List.getElem?_eq_getElem (by have := HN.out; omega)⟩
   obtain ⟨q, hq, hO, kk⟩ := H.out
   obtain ⟨g1, b1⟩ := HG.out k q hq
   obtain ⟨b, o', rfl, d0, d1, d2⟩ := rowSn_at' (HR.out wr kk) hs
   have hfs := HF.out s (List.mem_of_getElem? hs)
   have HC : Hid (∀ W, Kept [] wr W → Calls Tryz.prog 26 #[Ptr po, Sv s.to, .int .i64 s.kind, .slice (some ⟨W.heap.size, 0, none⟩) 1 1] (W.alloc (.cells #[.int .i64 s.arg] 2)) (SndP (W.alloc (.cells #[.int .i64 s.arg] 2)) po q s.to s.kind s.arg)) := Hid.mk fun W kW => by
    have h1 := (hO.kept0 kW).kept0 ((Kept.refl [] W).alloc (.cells #[.int .i64 s.arg] 2))
    have h2 := (hO.kept0 kW).lt
    exact sendP_any h1 g1 b1 (by omega) s.to (by omega) s.kind s.arg _ (fun V kV => ((ownsJ_one W s.arg).kept kV (fun x hx hm => by simp [Value.ownBlock] at hx hm; omega)).reads)
   have HQ : Hid (∀ V W, Kept [] wr V → Kept [po] V W → Kept [po] w W) := Hid.mk fun V W k1 k2 => (kk.trans k1 (by simp)).trans k2 (fun x hx => .inl hx)
   have HS : Hid (l.take (k + 1) = l.take k ++ [s]) := Hid.mk (by rw [List.take_add_one, hs]; rfl)
   have HSQ := Hid.mk hq
   have hkI : (k : Int) < (n : Int) := by omega
   clear hs hq hO kk g1 b1 hfs H
   go_wp2_with fail
   have hc := HC.out _ ((Kept.refl [] wr).alloc (.cells #[.string ⟨s.to.toArray⟩, .int .i64 s.kind, .int .i64 s.arg] 235))
   rw [show (wr.alloc (.cells #[.string ⟨s.to.toArray⟩, .int .i64 s.kind, .int .i64 s.arg] 235)).heap.size = wr.heap.size + 1 by simp] at hc
   have KA := Hid.mk (((Kept.refl [] wr).alloc (.cells #[.string ⟨s.to.toArray⟩, .int .i64 s.kind, .int .i64 s.arg] 235)).alloc (.cells #[.int .i64 s.arg] 2))
   refine hc.mono ?_
   clear hc HC d0 d1 d2
   rintro e w2 (⟨hok, ⟨r, rfl⟩, hO2, k2⟩ | ⟨hok, ⟨r, hr⟩, k2⟩)
   ·have H2 : Hid (∃ q, sendL o (l.take (k + 1)) = some q ∧ Ox w2 po q ∧ Kept [po] w w2) := Hid.mk ⟨_, by rw [HS.out, sendL_snoc, HSQ.out, Option.bind_some, if_pos hok], hO2, HQ.out _ _ KA.out k2⟩
    clear hok hO2 k2 KA HQ HS HSQ
    go_wp2_with fail
    go_roundw
    case rel => exact ⟨k + 1, by go_num, by omega, H2⟩
    case measure => simp [intOf]; omega
   ·have H2 : Hid (sendL o l = none ∧ Kept [po] w w2) := by
     have e1 : sendL o (l.take (k + 1)) = none := by rw [HS.out, sendL_snoc, HSQ.out, Option.bind_some, if_neg (by rw [hok]; simp)]
     have := sendL_none (l.drop (k + 1)) _ _ e1
     rw [List.take_append_drop] at this
     exact Hid.mk ⟨this, HQ.out _ _ KA.out k2⟩
    clear hok k2 KA HQ HS HSQ
    rcases hr with rfl | rfl
    all_goals
     go_wp2_with fail
     go_ret
     exact .inr ⟨H2.out.1, rfl, H2.out.2⟩
  ·obtain rfl : k = n := by omega
   have hkI : ((k : Int) < (k : Int)) = False := eq_false (by omega)
   have H2 : Hid (∃ q, sendL o l = some q ∧ Ox wr po q ∧ Kept [po] w wr) := by
    have := H.out
    rwa [List.take_of_length_le (by have := HN.out; omega)] at this
   clear H
   go_wp2_with fail
   go_ret
   obtain ⟨q, h1, h2, h3⟩ := H2.out
   exact .inl ⟨q, h1, rfl, h2, h3⟩
set_option maxHeartbeats 1000000 in
theorem canSend97 (h : Ox w po o) (g : GoodO o) {B : Nat} (hB : SerB o B) (h6 : B ≤ 2000000) {sa : Option Addr} {n sc : Nat} {l : List Sn} (hn : n = l.length) (hl : n ≤ 900)
  (hr : ReadsR 3 w (.slice sa n sc) (rowS l)) (hf : ∀ s ∈ l, s.to.length ≤ 40 ∧ I64 s.kind ∧ I64 s.arg) : Calls Tryz.prog 97 #[Ptr po, .slice sa n sc] w fun e w' => e = .returned (.bool (sendL o l).isSome) ∧ Kept [] w w' := by
 have HE : Hid (Calls Tryz.prog 67 #[Ptr po] w fun e w' => NewB w (encO o) e w') := by
  obtain ⟨ys, h1, h2⟩ := h
  have := encode14 h1 (by rw [h2]; exact g)
  rw [h2] at this
  exact Hid.mk this
 have HLn : Hid ((encO o).length ≤ 100000) := Hid.mk (Nat.le_trans (encO_length g) (by omega))
 have HD : Hid (∀ W v, Kept [] w W → Reads W v (encO o) → Calls Tryz.prog 118 #[v] W fun e w' => ∃ q, e = .returned (.tuple #[Ptr q, .int .i64 0]) ∧ Ox w' q o ∧ Kept [] W w' ∧ W.heap.size ≤ q) := Hid.mk fun W v k hv => by
  refine (decode16 v (encO o) hv (by have := HLn.out; omega)).mono ?_
  rintro e w1 (⟨h1, -, -⟩ | ⟨q, o', qs, h1, rfl, h2, h3, h4, h5⟩)
  ·rw [decO_back g] at h1; cases h1
  ·rw [decO_back g] at h1
   cases h1
   exact ⟨q, rfl, ⟨qs, h2, h3⟩, h4, h5⟩
 have HS : Hid (∀ W q, Kept [] w W → Ox W q o → w.heap.size ≤ q → Calls Tryz.prog 98 #[Ptr q, .slice sa n sc] W fun e w' => e = .returned (.bool (sendL o l).isSome) ∧ Kept [] w w') := Hid.mk fun W q k hO hq => by
  refine (send98 hO g hB h6 hn hl (fun V kV => hr.turn fun x o2 y hx hy _ => ?_) hf).mono ?_
  ·have hlt := World.block_lt_of_cell? w _ hy
   dsimp only at hlt
   rw [kV.cell (p := ⟨x, o2, none⟩) (by have := k.size; dsimp only; omega) (by simp; omega), k.cell hlt (by simp)]
   exact hy
  ·rintro e w1 (⟨q', h1, rfl, h2, h3⟩ | ⟨h1, rfl, h3⟩)
   ·exact ⟨by rw [h1]; rfl, k.trans h3 (fun x hx => by simp at hx; subst hx; exact .inr hq)⟩
   ·exact ⟨by rw [h1]; rfl, k.trans h3 (fun x hx => by simp at hx; subst hx; exact .inr hq)⟩
 clear h g hB hr hf hn hl h6
 generalize encO o = B0 at *
 generalize (sendL o l).isSome = R0 at *
 go_enter Tryz.func97, Tryz.ntmps97
 go_wp2_with fail
 refine HE.out.mono ?_
 rintro e w1 ⟨v, rfl, h1, k1, -⟩
 have HD1 := Hid.mk (HD.out w1 v k1 h1.reads)
 have HK := Hid.mk k1
 clear h1 k1 HE
 go_wp2_with fail
 refine HD1.out.mono ?_
 rintro e w2 ⟨q, rfl, h2, k2, hq⟩
 have HS2 := Hid.mk (HS.out w2 q (HK.out.trans k2 (by simp)) h2 (by have := HK.out.size; omega))
 clear h2 k2 hq HD1 HD HS
 go_wp2_with (go_at_call 98; refine HS2.out.mono ?_; rintro e w3 ⟨rfl, k3⟩)
 go_ret
 exact ⟨rfl, k3⟩
end
theorem CE_of (l : List Ev) : CE (l.map ofE) = rowE l := by
 simp [CE, rowE, cellsE, ofE, Function.comp_def]
section
variable {w0 w w' : World} {p pj pi po : Nat} {a : Ac} {t : Int} {v : Value}
theorem PA.ox (h : PA w0 w p pj pi po t v a) : Ox w po a.out := h.o
theorem reads_far {k : Nat} {S : List Nat} {v : Value} {rs : List (List Value)} {n : Nat} (h : ReadsR k w v rs) (hn : ∀ g, v.ownBlock = some g → n ≤ g) (hS : ∀ g ∈ S, g < n) (kk : Kept S w w') : ReadsR k w' v rs :=
 h.kept kk (fun g hg hm => by have := hn g hg; have := hS g hm; omega)
end
set_option maxHeartbeats 8000000 in
theorem layDown36 {w0 w : World} {p pj pi po n B V : Nat} {a : Ac} {x : Lt} {t : List Lt} {R : Rsl} {rv : Value} (h : AP w0 w p pj pi po a) (hL : Lim a B V) (hB : B ≤ 1000000) (hV : V ≤ 1000000) (hi : a.inb = x :: t)
  (hR : IsRs n w rv R) (hF : FitR R) (hn : p < n ∧ pj < n ∧ pi < n ∧ po < n) :
  Calls Tryz.prog 36 #[Ptr p, rv] w (TkP n w0 w p pj pi po (takeR a x t R 0)) := by
 have HT : Hid (takeR a x t R 0 = match sendL a.out R.sent with
  | none => (a, ocN, 8)
  | some o => (⟨addR a.j (R.ev.map ofE), t, o, 0, a.poi⟩, ⟨true, false, 0, R.k, R.tm⟩, 0)) := Hid.mk (by unfold takeR; rw [if_pos rfl]; cases sendL a.out R.sent <;> rfl)
 generalize takeR a x t R 0 = TR at *
 obtain ⟨v, hpa, hpo, hg⟩ := h
 obtain ⟨ev, sn, tm, rfl, r1, r2, r3, n1, n2, n3⟩ := hR.form
 obtain ⟨b0, b1, b2, b3, b4, b5, b6, b7, hreg⟩ := eight_of hR.r8
 obtain ⟨ea, ec, rfl, -, -⟩ := r1.form
 obtain ⟨sa, sc, rfl, -, -⟩ := r2.form
 obtain ⟨ta, tc, rfl, -, -⟩ := r3.form
 rw [rowE_length] at *
 rw [rowS_length] at *
 rw [rowT_length] at *
 have hcr : (cellsR R.reg (.slice ea R.ev.length ec) (.slice sa R.sent.length sc) (.slice ta R.tm.length tc) R.k).toArray = #[.int .i64 b0, .int .i64 b1, .int .i64 b2, .int .i64 b3, .int .i64 b4, .int .i64 b5, .int .i64 b6, .int .i64 b7, .slice ea R.ev.length ec, .slice sa R.sent.length sc, .slice ta R.tm.length tc, .int .i64 (R.k : Int)] := by rw [hreg]; rfl
 rw [hcr]
 obtain ⟨W0, e0, k0, hz0, hb0, hb1⟩ := box2 w (.cells #[.int .i64 b0, .int .i64 b1, .int .i64 b2, .int .i64 b3, .int .i64 b4, .int .i64 b5, .int .i64 b6, .int .i64 b7, .slice ea R.ev.length ec, .slice sa R.sent.length sc, .slice ta R.tm.length tc, .int .i64 (R.k : Int)] 103) (.cells #[.bool false, .bool false, .int .i64 0, .int .i64 0, .slice none 0 0] 39)
 have HP := Hid.mk (hpa.kept0 k0)
 have HPO := Hid.mk (hpo.kept0 k0)
 have HG := Hid.mk hg
 have HK := Hid.mk k0
 have hlt : p < w.heap.size ∧ pj < w.heap.size ∧ pi < w.heap.size ∧ po < w.heap.size := ⟨lt_of_block hpa.box, lt_of_block hpa.j.isP.box, lt_of_block hpa.i.choose_spec.1.box, hpa.ox.lt⟩
 have hs0 : w0.heap.size ≤ w.heap.size := by have := hpa.hp; omega
 have HW : Hid (w0.heap.size ≤ w.heap.size ∧ (p < w.heap.size ∧ pj < w.heap.size ∧ pi < w.heap.size ∧ po < w.heap.size)) := Hid.mk ⟨hs0, hlt⟩
 -- what stays while the actor's parts are turned
 have HS : Hid (∀ W, Kept [p, pj, pi, po] W0 W → (W.cell? ⟨w.heap.size, 8, none⟩ = some (.slice ea R.ev.length ec) ∧ W.cell? ⟨w.heap.size, 9, none⟩ = some (.slice sa R.sent.length sc) ∧ W.cell? ⟨w.heap.size, 10, none⟩ = some (.slice ta R.tm.length tc) ∧ W.cell? ⟨w.heap.size, 11, none⟩ = some (.int .i64 (R.k : Int))) ∧ W.heap[w.heap.size + 1]? = some (.cells #[.bool false, .bool false, .int .i64 0, .int .i64 0, .slice none 0 0] 39 (0, 0))) := Hid.mk fun W k => by
  have h1 := k.keeps hb0 (by simp; omega)
  have h2 := k.keeps hb1 (by simp; omega)
  refine ⟨⟨?_, ?_, ?_, ?_⟩, h2⟩ <;> (unfold World.cell?; rw [h1]; rfl)
 have HRW : Hid (∀ W, Kept [p, pj, pi, po] W0 W → ReadsR 2 W (.slice ea R.ev.length ec) (rowE R.ev) ∧ ReadsR 3 W (.slice sa R.sent.length sc) (rowS R.sent) ∧ ReadsR 5 W (.slice ta R.tm.length tc) (rowT R.tm)) := Hid.mk fun W k => by
  have hS : ∀ g ∈ [p, pj, pi, po], g < n := fun g hg => by simp at hg; omega
  exact ⟨reads_far (r1.keep k0) n1 hS k, reads_far (r2.keep k0) n2 hS k, reads_far (r3.keep k0) n3 hS k⟩
 have HR5 : Hid (∀ W, Kept [p, pj, pi, po] w W → ReadsR 5 W (.slice ta R.tm.length tc) (rowT R.tm)) := Hid.mk fun W k => reads_far r3 n3 (fun g hg => by simp at hg; omega) k
 have HN3 := Hid.mk n3
 have HIN : Hid (t.length ≤ 8 ∧ ∀ y ∈ t, y.ok ∧ y.formed = true) := Hid.mk ⟨by have := hg.i8; rw [hi, List.length_cons] at this; exact Nat.le_of_succ_le this, fun y hy => hg.inb y (by rw [hi]; simp [hy])⟩
 have HL := Hid.mk (And.intro hL (And.intro hB hV))
 have HF := Hid.mk hF
 have S0 := (HS.out _ (Kept.refl _ _).drew).1
 obtain ⟨d0, d1, d2, d3, d4⟩ := (HP.out.kept0 (Kept.refl _ _).drew).cells
 have HC : Hid (Calls Tryz.prog 97 #[Ptr po, .slice sa R.sent.length sc] W0.drew fun e w' => e = .returned (.bool (sendL a.out R.sent).isSome) ∧ Kept [] W0.drew w') := Hid.mk
  (canSend97 (HP.out.kept0 (Kept.refl _ _).drew).ox hg.out hL.ser (by omega) rfl (by have := hF.sent; omega) (HRW.out _ (Kept.refl _ _).drew).2.1 hF.snd)
 have HI : Hid (∃ q qt, q.x = x ∧ qt.map (·.x) = t ∧ ∀ W, Kept [] W0 W → IsB W pi (q :: qt)) := by
  obtain ⟨qs, h1, h2⟩ := HP.out.i
  rw [hi] at h2
  match qs, h2 with
  | q :: qt, h2 => simp only [List.map_cons, List.cons.injEq] at h2; exact Hid.mk ⟨q, qt, h2.1, h2.2, fun W k => h1.kept0 k⟩
 clear hpa hpo hg k0 hb0 hb1 r1 r2 r3 n1 n2 n3 hR hcr hreg hL hB hV hF hn hs0 hlt hz0 hi
 generalize hen : R.ev.length = en at *
 generalize hsn : R.sent.length = sn at *
 generalize htn : R.tm.length = tn at *
 have HLen := Hid.mk (And.intro hen (And.intro hsn htn))
 clear hen hsn htn
 generalize hok : (sendL a.out R.sent).isSome = ok at *
 have HOK := Hid.mk hok
 clear hok
 go_enter Tryz.func36, Tryz.ntmps36
 go_wp2_with fail
 go_region_held3 (fun W => W.cell? ⟨p, 2, none⟩ = some (Ptr po) ∧ W.cell? ⟨w.heap.size, 9, none⟩ = some (.slice sa sn sc)) (first | with_reducible exact ⟨d2, S0.2.1⟩ | exact ⟨(HP.out.kept0 K1.out).cells.2.2.1, (HS.out _ (K1.out.mono (by simp))).1.2.1⟩) (first | (go_at_call 97; refine HC.out.mono ?_; rintro e w1 ⟨rfl, k1⟩; have K1 : Hid (Kept [] W0 w1) := Hid.mk ((Kept.refl [] W0).drew.trans k1 (by simp)); clear k1))
 clear d0 d1 d2 d3 d4 S0 HC
 cases ok with
 | false =>
  have hb1 := (HS.out w1 (K1.out.mono (by simp))).2
  obtain ⟨g0, g1, g2, g3, g4⟩ := free5 hb1
  obtain ⟨y0, y1, y2, y3, y4⟩ := cells5 hb1
  go_wp2_with fail
  obtain ⟨W8, e8, k8, h8, -⟩ := put5 hb1 (.bool false) (.bool false) (.int .i64 0) (.int .i64 0) (.slice none 0 0)
  rw [e8]
  refine bodyPost_ret (results_cell_row2 (p := 4) (u := 5) (ty := 39) rfl _ _ (w.heap.size + 1) 39 _ (0, 0) _ rfl h8 Tryz.underlying39 rfl (by kernel_rfl) _ rfl) rfl ?_
  have hsn : sendL a.out R.sent = none := by
   have := HOK.out
   cases hs : sendL a.out R.sent with
   | none => rfl
   | some o => rw [hs] at this; cases this
  have hT := HT.out
  rw [hsn] at hT
  rw [hT]
  have T2 := TT.one hb1 (w0 := w0) (by have := HW.out.1; omega) k8
  exact ⟨_, rfl, isOc_nil _ _ _ _ 0, ⟨_, (HP.out.kept0 K1.out).turn T2 (by decide), (HPO.out.kept0 K1.out).turn T2 (by decide) (by decide), HG.out⟩, (((HK.out.trans K1.out (by simp)).mono (by simp)).trans k8 (fun x hx => .inr (by simp at hx; omega)))⟩
 | true =>
  obtain ⟨o', ho'⟩ : ∃ o', sendL a.out R.sent = some o' := by
   have := HOK.out
   cases hs : sendL a.out R.sent with
   | none => rw [hs] at this; cases this
   | some o => exact ⟨o, rfl⟩
  have HO := Hid.mk ho'
  have hp1 := HP.out.kept0 K1.out
  obtain ⟨q, qt, hq, hqt, hB⟩ := HI.out
  have HC1 := Hid.mk (pop13_some (hB w1 K1.out))
  have HQ := Hid.mk (And.intro hq hqt)
  obtain ⟨d0, d1, d2, d3, d4⟩ := hp1.cells
  clear hp1 hq hqt hB ho' HI
  go_wp2_with fail
  refine HC1.out.mono ?_
  rintro e w2 ⟨a2, c2, rfl, -, k2, -, hB2⟩
  have hp2 := (HP.out.kept0 K1.out).putI hB2 k2
  have hv2 := HPO.out.kept0 K1.out
  have T2 := TT.ofB (HP.out.kept0 K1.out).i.choose_spec.1 (HP.out.kept0 K1.out).hi k2
  have K2 : Hid (Kept [p, pj, pi, po] W0 w2) := Hid.mk ((K1.out.mono (by simp)).trans k2 (fun x hx => .inl (by simp at hx; simp [hx])))
  have V2 := Hid.mk (hv2.turn T2 (by decide) (by decide))
  have P2 := Hid.mk hp2
  clear hv2 T2 k2 hB2 HC1 d0 d1 d2 d3 d4
  obtain ⟨d0, d1, d2, d3, d4⟩ := hp2.cells
  have z3 := hp2.free 3
  have hp3 := hp2.set3 0
  have T3 := TT.set (i := 3) hp2.box hp2.hp (Iv 0)
  have V3 := Hid.mk (V2.out.turn T3 (by decide) (by decide))
  have K3 : Hid (Kept [p, pj, pi, po] W0 (w2.setCell ⟨p, 3, none⟩ (Iv 0))) := Hid.mk (K2.out.setCell (p := ⟨p, 3, none⟩) (.inl (by simp)) _)
  have P3 := Hid.mk hp3
  clear T3 hp2 hp3 P2 V2 d0 d1 d2 d4
  go_wp2_with fail
  generalize hw3 : w2.setCell ⟨p, 3, none⟩ (Value.int .i64 0) = w3 at *
  clear hw3 z3 d3
  obtain ⟨d0, d1, d2, d3, d4⟩ := (P3.out.kept0 (Kept.refl _ _).drew).cells
  have S3 := (HS.out _ K3.out.drew).1
  have HC2 := Hid.mk (add12 (P3.out.kept0 (Kept.refl _ _).drew).j HG.out.j.reg (v := .slice ea en ec) (l := R.ev.map ofE) (fun W kW => by rw [CE_of]; exact (HRW.out W (K3.out.drew.trans kW (fun x hx => .inl (by simp at hx; simp [hx])))).1) (by rw [List.length_map]; have := HF.out.ev; omega) (by rw [List.length_map]; have := HF.out.ev; have := HL.out.1.ver; have := HL.out.2.2; show a.j.ver + _ < _; omega))
  go_region_held3 (fun W => W.cell? ⟨p, 0, none⟩ = some (Ptr pj) ∧ W.cell? ⟨w.heap.size, 8, none⟩ = some (.slice ea en ec)) (first | with_reducible exact ⟨d0, S3.1⟩ | exact ⟨P4.out.cells.1, (HS.out _ K4.out).1.1⟩) (first | (go_at_call 28; refine HC2.out.mono ?_; rintro e w4 ⟨rfl, hJ4, k4⟩; have P4 := Hid.mk ((P3.out.kept0 (Kept.refl _ _).drew).putJ hJ4 k4); have K4 : Hid (Kept [p, pj, pi, po] W0 w4) := Hid.mk (K3.out.drew.trans k4 (fun x hx => .inl (by simp at hx; simp [hx]))); have V4 := Hid.mk ((V3.out.kept0 (Kept.refl _ _).drew).turn (TT.ofJ (P3.out.kept0 (Kept.refl _ _).drew).j (P3.out.kept0 (Kept.refl _ _).drew).hj k4) (by decide) (by decide)); clear k4 hJ4))
  clear d0 d1 d2 d3 d4 S3 HC2
  go_wp2_with fail
  obtain ⟨d0, d1, d2, d3, d4⟩ := (P4.out.kept0 (Kept.refl _ _).drew).cells
  have S4 := (HS.out _ K4.out.drew).1
  have HC3 : Hid (Calls Tryz.prog 98 #[Ptr po, .slice sa sn sc] w4.drew fun e w' => e = .returned (.bool true) ∧ Ox w' po o' ∧ Kept [po] w4.drew w') := Hid.mk ((send98 (P4.out.kept0 (Kept.refl _ _).drew).ox HG.out.out HL.out.1.ser (by have := HL.out.2.1; omega) (sa := sa) (n := sn) (sc := sc) (l := R.sent) HLen.out.2.1.symm (by have := HF.out.sent; have := HLen.out.2.1; omega) (fun W kW => (HRW.out W (K4.out.drew.trans kW (fun x hx => .inl (by simp at hx; simp [hx])))).2.1) HF.out.snd).mono (by
   rintro e w' (⟨q', h1, rfl, h2, h3⟩ | ⟨h1, -⟩)
   ·rw [HO.out] at h1; cases h1; exact ⟨rfl, h2, h3⟩
   ·rw [HO.out] at h1; cases h1))
  go_region_held3 (fun W => W.cell? ⟨p, 2, none⟩ = some (Ptr po) ∧ W.cell? ⟨w.heap.size, 9, none⟩ = some (.slice sa sn sc)) (first | with_reducible exact ⟨d2, S4.2.1⟩ | exact ⟨P5.out.cells.2.2.1, (HS.out _ K5.out).1.2.1⟩) (first | (go_at_call 98; refine HC3.out.mono ?_; rintro e w5 ⟨rfl, hO5, k5⟩; have P5 : Hid (PA w0 w5 p pj pi po 0 v ⟨addR a.j (R.ev.map ofE), qt.map (·.x), o', a.tries, a.poi⟩) := by { obtain ⟨ys5, h51, h52⟩ := hO5; exact Hid.mk ((P4.out.kept0 (Kept.refl _ _).drew).putO h51 h52 k5) }; have K5 : Hid (Kept [p, pj, pi, po] W0 w5) := Hid.mk (K4.out.drew.trans k5 (fun x hx => .inl (by simp at hx; simp [hx]))); have V5 : Hid (PoiO w5 v a.poi) := by { obtain ⟨ys4, h41, h42⟩ := (P4.out.kept0 (Kept.refl _ _).drew).o; exact Hid.mk ((V4.out.kept0 (Kept.refl _ _).drew).turn (TT.ofO h41 (P4.out.kept0 (Kept.refl _ _).drew).ho k5) (by decide) (by decide)) }; clear k5 hO5))
  clear d0 d1 d2 d3 d4 S4 HC3
  have hb1 := (HS.out w5 K5.out).2
  obtain ⟨⟨x0, x1, x2, x3⟩, -⟩ := HS.out w5 K5.out
  obtain ⟨g0, g1, g2, g3, g4⟩ := free5 hb1
  obtain ⟨y0, y1, y2, y3, y4⟩ := cells5 hb1
  have HB1 := Hid.mk hb1
  clear hb1
  go_wp2_with fail
  obtain ⟨W8, e8, k8, h8, -⟩ := put5 HB1.out (.bool true) (.bool false) (.int .i64 0) (.int .i64 (R.k : Int)) (.slice ta tn tc)
  rw [e8]
  refine bodyPost_ret (results_cell_row2 (p := 4) (u := 5) (ty := 39) rfl _ _ (w.heap.size + 1) 39 _ (0, 0) _ rfl h8 Tryz.underlying39 rfl (by kernel_rfl) _ rfl) rfl ?_
  have hT := HT.out
  rw [HO.out] at hT
  rw [hT]
  have T2 := TT.one HB1.out (w0 := w0) (by have := HW.out.1; omega) k8
  have g := HG.out
  have h4 := HF.out.sent
  have hev := HF.out.ev
  have hv := HL.out.1.ver
  obtain ⟨hB, hV⟩ := HL.out.2
  obtain ⟨g1, -⟩ := sendL_good R.sent a.out o' B g.out HL.out.1.ser (fun s h => (HF.out.snd s h).2) (by omega) HO.out
  have KF : Kept [p, pj, pi, po] w W8 := ((HK.out.mono (by simp)).trans K5.out (fun x hx => .inl hx)).trans k8 (fun x hx => .inr (by simp at hx; omega))
  exact ⟨_, rfl, ⟨_, rfl, HR5.out _ KF, HN3.out⟩, ⟨_, (P5.out.turn T2 (by decide)).as rfl (by rw [← HQ.out.2]) rfl, V5.out.turn T2 (by decide) (by decide), ⟨g.j.addR (ofE_64 HF.out.evs) (by rw [List.length_map]; omega), HIN.out.1, HIN.out.2, g1, g.poi⟩⟩, KF⟩
end Go.Proofs.YtngnenbidpojeaaGreatDoor
