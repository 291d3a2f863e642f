import Derived.Test.YtngnenbidpojeaaGreatDoorT05
import Derived.Test.YtngnenbidpojeaaGreatDoorT06
import Derived.Test.YtngnenbidpojeaaGreatDoorT09
import Derived.Test.YtngnenbidpojeaaGreatDoorT10
import Derived.Test.YtngnenbidpojeaaGreatDoorT32
/-
 readTargets: the targets that bytes go on with.
-/
namespace Go.Proofs.YtngnenbidpojeaaGreatDoor
set_option maxRecDepth 100000
open Go.RowKit
set_option linter.unusedVariables false
def lastK (K : List La) : List UInt8 := (K.getLast?.map (·.k)).getD []
theorem lastK_app (K : List La) (y : La) : lastK (K ++ [y]) = y.k := by simp [lastK]
theorem nil_lt {k : List UInt8} (h : isKey k = true) : [] < k := by
 have := (isKey_iff _).1 h
 cases k with
 | nil => simp at this
 | cons a k => exact List.nil_lt_cons _ _
theorem last_some {K : List La} {y : La} (h : K.getLast? = some y) : lastK K = y.k := by simp [lastK, h]
theorem rks_no {K : List La} {l : List UInt8} {n : Nat} (h : isKey (rtext l false).1 = false ∨ ¬ lastK K < (rtext l false).1 ∨ (rnum (rtext l false).2.1 (rtext l false).2.2).1 = 0) : rks (n + 1) K l = none := by
 rw [rks]
 cases ht : txt l with
 | none => rfl
 | some a =>
  obtain ⟨k, r⟩ := a
  rw [txt_some ht] at h
  dsimp only [Option.bind_some] at h ⊢
  cases hn : num r with
  | none => rfl
  | some b =>
   obtain ⟨s, r2⟩ := b
   rw [num_some hn] at h
   dsimp only [Option.bind_some] at h ⊢
   rw [if_pos]
   rcases h with h | h | h
   ·exact .inl h
   ·cases hk : isKey k with
    | false => exact .inl rfl
    | true =>
     right; right
     cases hl : K.getLast? with
     | none =>
      have : lastK K = [] := by simp [lastK, hl]
      rw [this] at h
      exact absurd (nil_lt hk) h
     | some y =>
      rw [last_some hl] at h
      exact ⟨y, rfl, h⟩
   ·exact .inr (.inl h)
theorem rks_yes {K : List La} {l : List UInt8} {n : Nat} (h1 : isKey (rtext l false).1 = true) (h2 : lastK K < (rtext l false).1) (h3 : (rnum (rtext l false).2.1 (rtext l false).2.2).1 ≠ 0) : (rnum (rtext l false).2.1 (rtext l false).2.2).2.2 = false ∧ rks (n + 1) K l = rks n (K ++ [⟨(rtext l false).1, (rnum (rtext l false).2.1 (rtext l false).2.2).1⟩]) (rnum (rtext l false).2.1 (rtext l false).2.2).2.1 := by
 rw [rks]
 cases ht : txt l with
 | none =>
  rw [txt_none ht] at h1
  simp [isKey] at h1
 | some a =>
  obtain ⟨k, r⟩ := a
  rw [txt_some ht] at h1 h2 h3 ⊢
  dsimp only [Option.bind_some] at h1 h2 h3 ⊢
  cases hn : num r with
  | none =>
   rw [num_none hn] at h3
   exact absurd rfl h3
  | some b =>
   obtain ⟨s, r2⟩ := b
   rw [num_some hn] at h3 ⊢
   dsimp only [Option.bind_some] at h3 ⊢
   refine ⟨rfl, ?_⟩
   rw [if_neg]
   rintro (h | h | ⟨y, hy, h⟩)
   ·rw [h1] at h; cases h
   ·exact h3 h
   ·rw [last_some hy] at h2; exact h h2
theorem rnum_rest (l : List UInt8) (bad : Bool) : (rnum l bad).2.1.length ≤ l.length := by
 unfold rnum
 split <;> simp
theorem rtext_rest (l : List UInt8) (bad : Bool) : (rtext l bad).1.length ≤ l.length ∧ (rtext l bad).2.1.length ≤ l.length := by
 have := rnum_rest l bad
 unfold rtext
 split
 ·simp
 ·simp only [List.length_take, List.length_drop]
  omega
theorem text_le (l : List UInt8) : (rtext l false).1.length ≤ l.length := (rtext_rest l false).1
theorem rest_le (l : List UInt8) : (rnum (rtext l false).2.1 (rtext l false).2.2).2.1.length ≤ l.length := Nat.le_trans (rnum_rest _ _) (rtext_rest l false).2
theorem le_no {a b : List UInt8} (h : b < a) : (Op.bytesLess a b || a == b) = false := by
 rw [bytesLess_eq, Bool.or_eq_false_iff]
 exact ⟨by simpa using fun h' => klt_irrefl _ (klt_trans h h'), by simp; rintro rfl; exact klt_irrefl _ h⟩
theorem le_yes {a b : List UInt8} (h : ¬ b < a) : (Op.bytesLess a b || a == b) = true := by
 rw [bytesLess_eq, Bool.or_eq_true]
 by_cases e : a = b
 ·right; simp [e]
 ·left; simpa using klt_tri h (fun h => e h.symm)
theorem CellsO.addK {cs : List Value} {own : List UInt8} {K : List La} {qs : List Yq} (h : CellsO cs own K qs) (hK : K.length < 64) (hq : qs.length ≤ 32) (y : La) :
  CellsO (((cs.set (1 + K.length * 2) (Sv y.k)).set (1 + K.length * 2 + 1) (Uv y.s)).set 129 (.int .i64 ((K.length + 1 : Nat) : Int))) own (K ++ [y]) qs := by
 have hl := h.len
 refine ⟨by simp only [List.length_set]; exact hl, ?_, fun i z hz m v hv => ?_, ?_, fun i z hz m v hv => ?_, ?_, set_one (set_one (set_one h.one rfl) rfl) rfl⟩
 ·rw [List.getElem?_set_ne (by omega), List.getElem?_set_ne (by omega), List.getElem?_set_ne (by omega)]; exact h.own
 ·have hi := get_lt hz
  have hm := cellsK_lt hv
  rw [List.length_append, List.length_singleton] at hi
  rw [List.getElem?_set_ne (by omega)]
  by_cases hlt : i < K.length
  ·rw [List.getElem?_append_left hlt] at hz
   rw [List.getElem?_set_ne (by omega), List.getElem?_set_ne (by omega)]
   exact h.ks i z hz m v hv
  ·have : i = K.length := by omega
   subst this
   simp at hz
   subst hz
   have : m = 0 ∨ m = 1 := by omega
   rcases this with rfl | rfl
   ·rw [List.getElem?_set_ne (by omega)]
    show (cs.set (1 + K.length * 2) (Sv y.k))[1 + K.length * 2]? = _
    rw [List.getElem?_set_self (by omega)]
    exact hv
   ·rw [List.getElem?_set_self (by simp only [List.length_set]; omega)]
    exact hv
 ·rw [List.getElem?_set_self (by simp only [List.length_set]; omega), List.length_append]; rfl
 ·have := get_lt hz
  have := cellsY_lt hv
  rw [List.getElem?_set_ne (by omega), List.getElem?_set_ne (by omega), List.getElem?_set_ne (by omega)]; exact h.ys i z hz m v hv
 ·rw [List.getElem?_set_ne (by omega), List.getElem?_set_ne (by omega), List.getElem?_set_ne (by omega)]; exact h.yn
structure St (w0 w : World) (p q : Nat) (own : List UInt8) (K : List La) (qs : List Yq) (l : List UInt8) (bad : Bool) : Prop where
 isO : IsO w p own K qs
 rd : ∃ v, IsR 212 w q v l bad ∧ v.ownBlock ≠ some p
 new : w0.heap.size ≤ q
 newp : w0.heap.size ≤ p
 k : Kept [] w0 w
section
variable {w0 w w' : World} {p q : Nat} {own : List UInt8} {K : List La} {qs : List Yq} {l : List UInt8} {bad : Bool}
theorem St.ne (h : St w0 w p q own K qs l bad) : p ≠ q := fun e => by
 obtain ⟨cs, hb⟩ := h.isO.bx
 obtain ⟨v, h1, -⟩ := h.rd
 exact box_ne hb h1.box (by decide) e
theorem St.kept0 (h : St w0 w p q own K qs l bad) (k : Kept [] w w') : St w0 w' p q own K qs l bad := by
 obtain ⟨v, h1, h2⟩ := h.rd
 exact ⟨h.isO.kept0 k, ⟨v, h1.kept k (by simp) (by simp), h2⟩, h.new, h.newp, h.k.trans k (by simp)⟩
theorem St.read (h : St w0 w p q own K qs l bad) {l' : List UInt8} {bad' : Bool} {v v' : Value} (h1 : IsR 212 w q v l bad) (h2 : v.ownBlock ≠ some p) (i1 : IsR 212 w' q v' l' bad') (i2 : Kept [q] w w') (i3 : ∀ g, v'.ownBlock = some g → v.ownBlock = some g) : St w0 w' p q own K qs l' bad' :=
 ⟨h.isO.kept i2 (by simp; exact h.ne) (fun y hy g hg hm => by simp at hm; subst hm; exact ownsJ_ne (h.isO.args y hy) h1.box (by decide) hg), ⟨v', i1, fun e => h2 (i3 p e)⟩, h.new, h.newp, h.k.trans i2 (fun x hx => by simp at hx; subst hx; exact .inr h.new)⟩
theorem st_num (h : St w0 w p q own K qs l bad) : Calls Tryz.prog 71 #[.pointer (some ⟨q, 0, none⟩)] w fun e w' => e = .returned (.int .u64 ((rnum l bad).1 : Int)) ∧ St w0 w' p q own K qs (rnum l bad).2.1 (rnum l bad).2.2 ∧ Kept [q] w w' := by
 obtain ⟨v, h1, h2⟩ := h.rd
 refine (rnum_any q v l bad w h1).mono ?_
 rintro e w' ⟨rfl, v', i1, i2, i3⟩
 exact ⟨rfl, h.read h1 h2 i1 i2 i3, i2⟩
theorem st_text (h : St w0 w p q own K qs l bad) (hl : l.length ≤ 140737488355328) : Calls Tryz.prog 116 #[.pointer (some ⟨q, 0, none⟩)] w fun e w' => e = .returned (Sv (rtext l bad).1) ∧ St w0 w' p q own K qs (rtext l bad).2.1 (rtext l bad).2.2 ∧ Kept [q] w w' := by
 obtain ⟨v, h1, h2⟩ := h.rd
 refine (rtext_any q v l bad w h1).mono ?_
 rintro e w' ⟨rfl, v', i1, i2, i3⟩
 exact ⟨rfl, h.read h1 h2 i1 i2 i3, i2⟩
theorem St.stored {K' : List La} {qs' : List Yq} (h : St w0 w p q own K qs l bad) (hO : IsO w' p own K' qs') (k : Kept [p] w w') : St w0 w' p q own K' qs' l bad := by
 obtain ⟨v, h1, h2⟩ := h.rd
 exact ⟨hO, ⟨v, h1.kept k (by simp; exact fun e => h.ne e.symm) (fun g hg hm => by simp at hm; subst hm; exact h2 hg), h2⟩, h.new, h.newp, h.k.trans k (fun x hx => by simp at hx; subst hx; exact .inr h.newp)⟩
def TgtAt (w0 : World) (p q : Nat) (own : List UInt8) (o : Option (List La × List UInt8)) (e : Ending) (w' : World) : Prop :=
 (∃ K l, o = some (K, l) ∧ e = .returned (.bool true) ∧ St w0 w' p q own K [] l false) ∨
 (o = none ∧ ∃ b K l bad, e = .returned (.bool b) ∧ St w0 w' p q own K [] l bad ∧ (b = true → bad = true))
theorem tgt_no {w' : World} {K' : List La} {l' : List UInt8} {bad' : Bool} {o : Option (List La × List UInt8)} (ho : o = none) (h : St w0 w' p q own K' [] l' bad') : TgtAt w0 p q own o (.returned (.bool false)) w' := .inr ⟨ho, false, K', l', bad', rfl, h, (fun h => by cases h)⟩
theorem tgt_bad {w' : World} {K' : List La} {l' : List UInt8} {o : Option (List La × List UInt8)} (ho : o = none) (h : St w0 w' p q own K' [] l' true) : TgtAt w0 p q own o (.returned (.bool true)) w' := .inr ⟨ho, true, K', l', true, rfl, h, (fun _ => rfl)⟩
theorem tgt_yes {w' : World} {K' : List La} {l' : List UInt8} {o : Option (List La × List UInt8)} (ho : o = some (K', l')) (h : St w0 w' p q own K' [] l' false) : TgtAt w0 p q own o (.returned (.bool true)) w' := .inl ⟨K', l', ho, rfl, h⟩
def rkN (l : List UInt8) : Option (List La × List UInt8) := (num l).bind fun b => if 64 < b.1 then none else rks b.1 [] b.2
set_option maxHeartbeats 4000000 in
theorem readT45 (h : St w0 w p q own [] [] l false) (hl : l.length ≤ 140737488355328) : Calls Tryz.prog 141 #[.pointer (some ⟨p, 0, none⟩), .pointer (some ⟨q, 0, none⟩)] w fun e w' => TgtAt w0 p q own (rkN l) e w' := by
 have HN : Hid (∀ W K' l' bad', rkN l = none → St w0 W p q own K' [] l' bad' → TgtAt w0 p q own (rkN l) (.returned (.bool false)) W) := fun W K' l' bad' => tgt_no
 have HBD : Hid (∀ W K' l', rkN l = none → St w0 W p q own K' [] l' true → TgtAt w0 p q own (rkN l) (.returned (.bool true)) W) := fun W K' l' => tgt_bad
 have HY : Hid (∀ W K' l', rkN l = some (K', l') → St w0 W p q own K' [] l' false → TgtAt w0 p q own (rkN l) (.returned (.bool true)) W) := fun W K' l' => tgt_yes
 generalize TgtAt w0 p q own (rkN l) = R at HN HBD HY
 have HA := Hid.mk (st_num h)
 clear h
 go_enter Tryz.func141, Tryz.ntmps141
 go_wp2_with fail
 refine HA.out.mono ?_
 rintro e w1 ⟨rfl, h1, -⟩
 clear HA
 cases hn : num l with
 | none =>
  have HO : Hid (rkN l = none) := by show _ = _; unfold rkN; rw [hn]; rfl
  rw [num_none hn] at h1 ⊢
  have HS := Hid.mk (HBD.out _ _ _ HO.out h1)
  clear hn h1 HN HBD HY HO
  dsimp only
  go_wp2_with fail
  go_loopw [6, 13] (fun a i wr => i = .int .u64 0 ∧ Hid (R (.returned (.bool true)) wr)) (fun _ _ _ => 0)
  case atStart => exact ⟨rfl, HS⟩
  case round =>
   obtain ⟨rfl, hS⟩ := hrel
   go_wp2_with fail
   exact hS.out
 | some b =>
  obtain ⟨n, r⟩ := b
  have hn64 := num_lt hn
  have hrl : r.length ≤ l.length := by have := congrArg List.length (num_fwd hn); rw [List.length_append] at this; omega
  rw [num_some hn] at h1 ⊢
  by_cases h64 : 64 < n
  ·have HO : Hid (rkN l = none) := by show _ = _; unfold rkN; rw [hn]; show (if 64 < n then none else _) = none; rw [if_pos h64]
   have HS := Hid.mk (HN.out _ _ _ _ HO.out h1)
   have g64 : (64 : Int) < (n : Int) := by omega
   clear hn h1 HN HBD HY HO
   dsimp only
   go_wp2_with fail
   exact HS.out
  ·have HO : Hid (rkN l = rks n [] r) := by show _ = _; unfold rkN; rw [hn]; show (if 64 < n then none else _) = _; rw [if_neg h64]
   have g64 : ((64 : Int) < (n : Int)) = False := eq_false (by omega)
   have H1 := Hid.mk h1
   clear hn h1
   dsimp only
   go_wp2_with fail
   go_loopw [6, 13] (fun a i wr => ∃ (j : Nat) (K : List La) (r : List UInt8), a = Sv (lastK K) ∧ i = .int .u64 (j : Int) ∧ j ≤ n ∧ K.length = j ∧ r.length ≤ l.length ∧ Hid (St w0 wr p q own K [] r false ∧ rkN l = rks (n - j) K r)) (fun _ i _ => n - (intOf i).toNat)
   case atStart => exact ⟨0, [], r, rfl, rfl, by omega, rfl, hrl, Hid.mk ⟨H1.out, HO.out⟩⟩
   case round =>
    clear H1 HO
    obtain ⟨j, K, r, rfl, rfl, hj, hKl, hrl, hH⟩ := hrel
    obtain ⟨hS, hO⟩ := hH.out
    by_cases hlt : j < n
    ·have hjI : (j : Int) < (n : Int) := by omega
     have H2 := Hid.mk (st_text hS (by omega))
     have HOO := Hid.mk hO
     clear hH hS hO
     go_wp2_with fail
     refine H2.out.mono ?_
     rintro e w2 ⟨rfl, h2, -⟩
     have H3 := Hid.mk (st_num h2)
     clear H2 h2
     go_wp2_with fail
     refine H3.out.mono ?_
     rintro e w3 ⟨rfl, h3, -⟩
     clear H3
     obtain ⟨m, hm⟩ : ∃ m, n - j = m + 1 := ⟨n - j - 1, by omega⟩
     have HNO : Hid (isKey (rtext r false).1 = false ∨ ¬ lastK K < (rtext r false).1 ∨ (rnum (rtext r false).2.1 (rtext r false).2.2).1 = 0 → rkN l = none) := fun h => by rw [HOO.out, hm]; exact rks_no h
     have HYES : Hid (isKey (rtext r false).1 = true → lastK K < (rtext r false).1 → (rnum (rtext r false).2.1 (rtext r false).2.2).1 ≠ 0 → (rnum (rtext r false).2.1 (rtext r false).2.2).2.2 = false ∧ rkN l = rks m (K ++ [⟨(rtext r false).1, (rnum (rtext r false).2.1 (rtext r false).2.2).1⟩]) (rnum (rtext r false).2.1 (rtext r false).2.2).2.1) := fun a b c => by rw [HOO.out, hm]; exact rks_yes a b c
     have hl2 := rest_le r
     have hs64 : (rnum (rtext r false).2.1 (rtext r false).2.2).1 < 18446744073709551616 := rnum_lt _ _
     have HM := Hid.mk hm
     clear HOO hm
     have hklen : (rtext r false).1.length ≤ 140737488355328 := by have := text_le r; omega
     generalize (rtext r false).1 = kk at *
     generalize (rnum (rtext r false).2.1 (rtext r false).2.2).1 = s at *
     generalize (rnum (rtext r false).2.1 (rtext r false).2.2).2.1 = r2 at *
     generalize (rnum (rtext r false).2.1 (rtext r false).2.2).2.2 = b2 at *
     go_wp2_with fail
     obtain ⟨W4, e4, k4, hz4, hb4⟩ := box1 w3 (.cells #[Sv kk, Uv s] 164)
     rw [e4]
     clear e4
     have h4 := h3.kept0 k4
     have H4 := Hid.mk h4
     have H26 := Hid.mk (isKey26 (w := W4) kk (by omega))
     have c40 : W4.cell? ⟨w3.heap.size, 0, none⟩ = some (Sv kk) := IsO.cell (cs := [Sv kk, Uv s]) hb4 rfl
     have c41 : W4.cell? ⟨w3.heap.size, 1, none⟩ = some (Uv s) := IsO.cell (cs := [Sv kk, Uv s]) hb4 rfl
     clear h3 k4 hz4 h4
     refine H26.out.mono ?_
     rintro e w5 ⟨rfl, rfl⟩
     cases hk : isKey kk with
     | false =>
      have HS := Hid.mk (HN.out _ _ _ _ (HNO.out (.inl hk)) H4.out)
      clear HN HBD HY H4
      go_wp2_with fail
      exact HS.out
     | true =>
      by_cases hab : lastK K < kk
      ·have hless : (Op.bytesLess kk (lastK K) || kk == lastK K) = false := le_no hab
       by_cases hs0 : s = 0
       ·have HS := Hid.mk (HN.out _ _ _ _ (HNO.out (.inr (.inr hs0))) H4.out)
        have hs0' : ((s : Int) == 0) = true := by simp [hs0]
        clear HN HBD HY H4 hs0
        go_wp2_with fail
        exact HS.out
       ·obtain ⟨hb2, ho2⟩ := HYES.out hk hab hs0
        subst hb2
        have hs0' : ((s : Int) == 0) = false := by simp; omega
        have HO2 := Hid.mk ho2
        clear hs0 ho2 HYES HNO hk H26
        subst hKl
        have hkn : K.length < 64 := by omega
        have g0 : (0 : Int) ≤ (K.length : Int) := by omega
        have g1 : (K.length : Int) < 64 := by omega
        have hpl := H4.out.isO.lt
        have hgp : w3.heap.size ≠ p := by
         obtain ⟨cs, hb⟩ := H4.out.isO.bx
         exact box_ne hb4 hb (by decide)
        have t0 : W4.drew.cell? ⟨p, 129, none⟩ = some (.int .i64 (K.length : Int)) := H4.out.isO.known
        have t1 : W4.drew.cell? ⟨w3.heap.size, 0, none⟩ = some (Sv kk) := c40
        have t2 : W4.drew.cell? ⟨w3.heap.size, 1, none⟩ = some (Uv s) := c41
        obtain ⟨d0, hd0⟩ := H4.out.isO.any (i := 1 + K.length * 2) (by omega)
        obtain ⟨d1, hd1⟩ := H4.out.isO.any (i := 1 + K.length * 2 + 1) (by omega)
        have e0 : W4.drew.cell? ⟨p, 1 + K.length * 2, none⟩ = some d0 := hd0
        have e1 : W4.drew.cell? ⟨p, 1 + K.length * 2 + 1, none⟩ = some d1 := hd1
        have f0 := H4.out.isO.free (1 + K.length * 2)
        have f1 := H4.out.isO.free (1 + K.length * 2 + 1)
        have i0 : W4.drew.frozen? ⟨p, 1 + K.length * 2, none⟩ = false := f0
        have i1 : W4.drew.frozen? ⟨p, 1 + K.length * 2 + 1, none⟩ = false := f1
        obtain ⟨cs, hbx, hcs⟩ := H4.out.isO.box
        obtain ⟨W5, e5⟩ : ∃ W5, (W4.setCell ⟨p, 1 + K.length * 2, none⟩ (Sv kk)).setCell ⟨p, 1 + K.length * 2 + 1, none⟩ (Uv s) = W5 := ⟨_, rfl⟩
        have h5 := set_list (k := 1 + K.length * 2 + 1) (x := Uv s) (set_list (k := 1 + K.length * 2) (x := Sv kk) hbx)
        have k5 := ((Kept.refl [p] W4).setCell (p := ⟨p, 1 + K.length * 2, none⟩) (.inl (by simp)) (Sv kk)).setCell (p := ⟨p, 1 + K.length * 2 + 1, none⟩) (.inl (by simp)) (Uv s)
        rw [e5] at h5 k5
        have HE5 := Hid.mk e5
        have h6 := set_list (k := 129) (x := .int .i64 ((K.length + 1 : Nat) : Int)) h5
        have hP := hcs.addK hkn (by simp) ⟨kk, s⟩
        have q5 : W5.cell? ⟨p, 129, none⟩ = some (.int .i64 (K.length : Int)) := by
         refine IsO.cell h5 ?_
         rw [List.getElem?_set_ne (by omega), List.getElem?_set_ne (by omega)]
         exact hcs.kn
        have u5 : W5.frozen? ⟨p, 129, none⟩ = false := by simp [World.frozen?, h5]
        have q50 : W5.cell? ⟨w3.heap.size, 0, none⟩ = some (Sv kk) := IsO.cell (cs := [Sv kk, Uv s]) (k5.keeps hb4 (by simp; exact hgp)) rfl
        have k6 := k5.setCell (p := ⟨p, 129, none⟩) (.inl (by simp)) (.int .i64 ((K.length + 1 : Nat) : Int))
        have hb6 := k6.keeps hb4 (by simp; exact hgp)
        have q60 : (W5.setCell ⟨p, 129, none⟩ (.int .i64 ((K.length + 1 : Nat) : Int))).cell? ⟨w3.heap.size, 0, none⟩ = some (Sv kk) := IsO.cell (cs := [Sv kk, Uv s]) hb6 rfl
        have HR : Hid (St w0 (W5.setCell ⟨p, 129, none⟩ (.int .i64 ((K.length + 1 : Nat) : Int))).drew p q own (K ++ [⟨kk, s⟩]) [] r2 false) := H4.out.stored ⟨⟨_, h6, hP⟩, by simp; omega, by simp, by simp⟩ k6.drew
        have HQ : Hid (∀ V, V = (W4.setCell ⟨p, 1 + K.length * 2, none⟩ (Sv kk)).setCell ⟨p, 1 + K.length * 2 + 1, none⟩ (Uv s) → V.drew.cell? ⟨p, 129, none⟩ = some (.int .i64 (K.length : Int)) ∧ V.drew.cell? ⟨w3.heap.size, 0, none⟩ = some (Sv kk) ∧ V.drew.cell? ⟨w3.heap.size, 1, none⟩ = some (Uv s)) := fun V hV => by
         rw [HE5.out] at hV
         subst hV
         exact ⟨q5, q50, IsO.cell (cs := [Sv kk, Uv s]) (k5.keeps hb4 (by simp; exact hgp)) rfl⟩
        clear hbx hcs h5 hP h6 k6 e5 hb6 k5 hb4 H4
        go_wp2_with fail
        clear c40 c41
        go_region_held3 (fun W => W.cell? ⟨p, 129, none⟩ = some (.int .i64 (K.length : Int)) ∧ W.cell? ⟨w3.heap.size, 0, none⟩ = some (Sv kk) ∧ W.cell? ⟨w3.heap.size, 1, none⟩ = some (Uv s)) (first | with_reducible exact ⟨t0, t1, t2⟩ | exact HQ.out _ rfl) (fail)
        rw [HE5.out]
        clear t0 t1 t2 e0 e1 i0 i1 hd0 hd1 f0 f1 HQ HE5
        go_wp2_with fail
        go_roundw
        case rel =>
         have hR2 := HR.out
         rw [show ((K.length + 1 : Nat) : Int) = (K.length : Int) + 1 from rfl] at hR2
         refine ⟨K.length + 1, K ++ [⟨kk, s⟩], r2, by rw [lastK_app], by go_num, by omega, by simp, by omega, Hid.mk ⟨hR2, ?_⟩⟩
         rw [HO2.out]
         have := HM.out
         congr 1
         omega
        case measure => simp [intOf]; omega
      ·have hless : (Op.bytesLess kk (lastK K) || kk == lastK K) = true := le_yes hab
       have HS := Hid.mk (HN.out _ _ _ _ (HNO.out (.inr (.inl hab))) H4.out)
       clear HN HBD HY H4
       go_wp2_with fail
       exact HS.out
    ·obtain rfl : j = n := by omega
     rw [Nat.sub_self, rks] at hO
     have HS := Hid.mk (HY.out _ _ _ hO hS)
     clear hH hS hO
     go_wp2_with fail
     exact HS.out
end
theorem bytes_of (w : World) (l : List UInt8) (hl : l.length ≤ maxLen) : ∃ cap w', (convert 9 73 (.string ⟨l.toArray⟩)).run Tryz.prog w = .ok (.slice (some ⟨w.heap.size, 0, none⟩) l.length cap) w' ∧ Reads w' (.slice (some ⟨w.heap.size, 0, none⟩) l.length cap) l ∧ Kept [] w w' ∧ w.heap.size < w'.heap.size := by
 have hsz : (⟨l.toArray⟩ : ByteArray).size = l.length := by simp [ByteArray.size]
 have hrun := run_bytes_of_string (P := Tryz.prog) w 9 73 5 ⟨l.toArray⟩ Tryz.underlying9 Tryz.underlying73 Tryz.underlying5
 rw [hsz] at hrun
 refine ⟨_, _, hrun, ⟨_, _, rfl, grownCap_ge w _ _ _, grownCap_le_maxLen w _ _ _ hl, by simp, fun _ => ⟨w.heap.size, 0, rfl, fun j u hu => ?_⟩⟩, ((Kept.refl [] w).drew).alloc _, by simp⟩
 rw [Nat.zero_add, cell_of_row _ w.heap.size j _ 5 _ (heap_alloc_new w.drew _)]
 have hj : j < l.length := (List.getElem?_eq_some_iff.1 hu).1
 unfold bytesRow
 rw [Array.getElem?_append_left (by simpa using hj)]
 simp [hu, B8]
def rlp (own : List UInt8) : Nat → List Ot → List UInt8 → Option (List Ot × List UInt8)
 | 0, L, l => some (L, l)
 | n + 1, L, l => (txt l).bind fun a => (txt a.2).bind fun b => (decL b.1).bind fun x => if x.fr ≠ own then none else rlp own n (L ++ [⟨a.1, x⟩]) b.2
theorem rlp_ext (own : List UInt8) : ∀ (n : Nat) (L : List Ot) (l : List UInt8) (L' : List Ot) (r : List UInt8), rlp own n L l = some (L', r) → ∃ X, L' = L ++ X ∧ X.length = n
 | 0, L, l, L', r, h => by
  rw [rlp] at h
  simp at h
  exact ⟨[], by simp [h.1], rfl⟩
 | n + 1, L, l, L', r, h => by
  rw [rlp] at h
  cases h1 : txt l with
  | none => rw [h1] at h; cases h
  | some a =>
   rw [h1] at h
   dsimp only [Option.bind_some] at h
   cases h2 : txt a.2 with
   | none => rw [h2] at h; cases h
   | some b =>
    rw [h2] at h
    dsimp only [Option.bind_some] at h
    cases h3 : decL b.1 with
    | none => rw [h3] at h; cases h
    | some x =>
     rw [h3] at h
     dsimp only [Option.bind_some] at h
     split at h
     ·cases h
     ·obtain ⟨X, e, hX⟩ := rlp_ext own n _ _ _ _ h
      exact ⟨⟨a.1, x⟩ :: X, by rw [e]; simp, by simp [hX]⟩
theorem rls_rlp (own : List UInt8) (K : List La) : ∀ (n : Nat) (L : List Ot) (l : List UInt8), (∀ y ∈ L, hasK K y.to = true) → rls own K n L l = (rlp own n L l).bind fun a => if (∀ y ∈ a.1, hasK K y.to = true) then some a else none
 | 0, L, l, hL => by
  rw [rls, rlp]
  dsimp only [Option.bind_some]
  rw [if_pos hL]
 | n + 1, L, l, hL => by
  rw [rls, rlp]
  cases h1 : txt l with
  | none => rfl
  | some a =>
   dsimp only [Option.bind_some]
   cases h2 : txt a.2 with
   | none => rfl
   | some b =>
    dsimp only [Option.bind_some]
    cases h3 : decL b.1 with
    | none => rfl
    | some x =>
     dsimp only [Option.bind_some]
     by_cases h4 : x.fr ≠ own
     ·rw [if_pos (.inl h4), if_pos h4]; rfl
     ·rw [if_neg h4]
      cases h5 : hasK K a.1 with
      | false =>
       rw [if_pos (.inr rfl)]
       cases h6 : rlp own n (L ++ [⟨a.1, x⟩]) b.2 with
       | none => rfl
       | some c =>
        obtain ⟨L', r⟩ := c
        obtain ⟨X, e, -⟩ := rlp_ext own n _ _ _ _ h6
        dsimp only [Option.bind_some]
        rw [if_neg]
        intro hh
        have := hh ⟨a.1, x⟩ (by rw [e]; simp)
        rw [h5] at this
        cases this
      | true =>
       rw [if_neg (by rintro (h | h); exact h4 h; cases h)]
       exact rls_rlp own K n _ _ (fun y hy => by
        rcases List.mem_append.1 hy with h | h
        ·exact hL y h
        ·simp at h; subst h; exact h5)
theorem decL_nil : decL [] = none := by decide +kernel
theorem rlp_no {own : List UInt8} {L : List Ot} {l : List UInt8} {n : Nat} (h : decL (rtext (rtext l false).2.1 (rtext l false).2.2).1 = none ∨ ∃ x, decL (rtext (rtext l false).2.1 (rtext l false).2.2).1 = some x ∧ x.fr ≠ own) : rlp own (n + 1) L l = none := by
 rw [rlp]
 cases ht : txt l with
 | none => rfl
 | some a =>
  obtain ⟨k, r⟩ := a
  rw [txt_some ht] at h
  dsimp only [Option.bind_some] at h ⊢
  cases hn : txt r with
  | none => rfl
  | some b =>
   obtain ⟨s, r2⟩ := b
   rw [txt_some hn] at h
   dsimp only [Option.bind_some] at h ⊢
   rcases h with h | ⟨x, h, h'⟩
   ·rw [h]; rfl
   ·rw [h]
    dsimp only [Option.bind_some]
    rw [if_pos h']
theorem rlp_yes {own : List UInt8} {L : List Ot} {l : List UInt8} {n : Nat} {x : Lt} (h : decL (rtext (rtext l false).2.1 (rtext l false).2.2).1 = some x) (hf : x.fr = own) : (rtext (rtext l false).2.1 (rtext l false).2.2).2.2 = false ∧ rlp own (n + 1) L l = rlp own n (L ++ [⟨(rtext l false).1, x⟩]) (rtext (rtext l false).2.1 (rtext l false).2.2).2.1 := by
 rw [rlp]
 cases ht : txt l with
 | none =>
  rw [txt_none ht] at h
  have e : (rtext [] true).1 = [] := rfl
  dsimp only at h
  rw [e, decL_nil] at h
  cases h
 | some a =>
  obtain ⟨k, r⟩ := a
  rw [txt_some ht] at h ⊢
  dsimp only [Option.bind_some] at h ⊢
  cases hn : txt r with
  | none =>
   rw [txt_none hn, decL_nil] at h
   cases h
  | some b =>
   obtain ⟨s, r2⟩ := b
   rw [txt_some hn] at h ⊢
   dsimp only [Option.bind_some] at h ⊢
   rw [h]
   dsimp only [Option.bind_some]
   rw [if_neg (by simp [hf])]
   exact ⟨rfl, rfl⟩
section
variable {w0 w w' : World} {p q : Nat} {own : List UInt8} {K : List La} {qs : List Yq} {l : List UInt8} {bad : Bool}
def WtAt (w0 : World) (p q : Nat) (own : List UInt8) (K : List La) (o : Option (List Ot × List UInt8)) (e : Ending) (w' : World) : Prop :=
 (∃ qs l, o = some (qs.map ot, l) ∧ e = .returned (.bool true) ∧ St w0 w' p q own K qs l false) ∨
 (o = none ∧ ∃ b qs l bad, e = .returned (.bool b) ∧ St w0 w' p q own K qs l bad ∧ (b = true → bad = true))
theorem wt_no {w' : World} {qs' : List Yq} {l' : List UInt8} {bad' : Bool} {o : Option (List Ot × List UInt8)} (ho : o = none) (h : St w0 w' p q own K qs' l' bad') : WtAt w0 p q own K o (.returned (.bool false)) w' := .inr ⟨ho, false, qs', l', bad', rfl, h, (fun h => by cases h)⟩
theorem wt_bad {w' : World} {qs' : List Yq} {l' : List UInt8} {o : Option (List Ot × List UInt8)} (ho : o = none) (h : St w0 w' p q own K qs' l' true) : WtAt w0 p q own K o (.returned (.bool true)) w' := .inr ⟨ho, true, qs', l', true, rfl, h, (fun _ => rfl)⟩
theorem wt_yes {w' : World} {qs' : List Yq} {l' : List UInt8} {o : Option (List Ot × List UInt8)} (ho : o = some (qs'.map ot, l')) (h : St w0 w' p q own K qs' l' false) : WtAt w0 p q own K o (.returned (.bool true)) w' := .inl ⟨qs', l', ho, rfl, h⟩
def rlN (own : List UInt8) (l : List UInt8) : Option (List Ot × List UInt8) := (num l).bind fun d => if 32 < d.1 then none else rlp own d.1 [] d.2
set_option maxHeartbeats 4000000 in
theorem readW46 (h : St w0 w p q own K [] l false) (hl : l.length ≤ 140737488355328) : Calls Tryz.prog 142 #[.pointer (some ⟨p, 0, none⟩), .pointer (some ⟨q, 0, none⟩)] w fun e w' => WtAt w0 p q own K (rlN own l) e w' := by
 have HN : Hid (∀ W qs' l' bad', rlN own l = none → St w0 W p q own K qs' l' bad' → WtAt w0 p q own K (rlN own l) (.returned (.bool false)) W) := fun W qs' l' bad' => wt_no
 have HBD : Hid (∀ W qs' l', rlN own l = none → St w0 W p q own K qs' l' true → WtAt w0 p q own K (rlN own l) (.returned (.bool true)) W) := fun W qs' l' => wt_bad
 have HY : Hid (∀ W (qs' : List Yq) l', rlN own l = some (qs'.map ot, l') → St w0 W p q own K qs' l' false → WtAt w0 p q own K (rlN own l) (.returned (.bool true)) W) := fun W qs' l' => wt_yes
 generalize WtAt w0 p q own K (rlN own l) = R at HN HBD HY
 have HA := Hid.mk (st_num h)
 clear h
 go_enter Tryz.func142, Tryz.ntmps142
 go_wp2_with fail
 refine HA.out.mono ?_
 rintro e w1 ⟨rfl, h1, -⟩
 clear HA
 cases hn : num l with
 | none =>
  have HO : Hid (rlN own l = none) := by show _ = _; unfold rlN; rw [hn]; rfl
  rw [num_none hn] at h1 ⊢
  have HS := Hid.mk (HBD.out _ _ _ HO.out h1)
  clear hn h1 HN HBD HY HO
  dsimp only
  go_wp2_with fail
  go_loopw [14] (fun i wr => i = .int .u64 0 ∧ Hid (R (.returned (.bool true)) wr)) (fun _ _ => 0)
  case atStart => exact ⟨rfl, HS⟩
  case round =>
   obtain ⟨rfl, hS⟩ := hrel
   go_wp2_with fail
   exact hS.out
 | some b =>
  obtain ⟨n, r⟩ := b
  have hn64 := num_lt hn
  have hrl : r.length ≤ l.length := by have := congrArg List.length (num_fwd hn); rw [List.length_append] at this; omega
  rw [num_some hn] at h1 ⊢
  by_cases h64 : 32 < n
  ·have HO : Hid (rlN own l = none) := by show _ = _; unfold rlN; rw [hn]; show (if 32 < n then none else _) = none; rw [if_pos h64]
   have HS := Hid.mk (HN.out _ _ _ _ HO.out h1)
   have g64 : (32 : Int) < (n : Int) := by omega
   clear hn h1 HN HBD HY HO
   dsimp only
   go_wp2_with fail
   exact HS.out
  ·have HO : Hid (rlN own l = rlp own n [] r) := by show _ = _; unfold rlN; rw [hn]; show (if 32 < n then none else _) = _; rw [if_neg h64]
   have g64 : ((32 : Int) < (n : Int)) = False := eq_false (by omega)
   have H1 := Hid.mk h1
   clear hn h1
   dsimp only
   go_wp2_with fail
   go_loopw [14] (fun i wr => ∃ (j : Nat) (qs : List Yq) (r : List UInt8), i = .int .u64 (j : Int) ∧ j ≤ n ∧ qs.length = j ∧ r.length ≤ l.length ∧ Hid (St w0 wr p q own K qs r false ∧ rlN own l = rlp own (n - j) (qs.map ot) r)) (fun i _ => n - (intOf i).toNat)
   case atStart => exact ⟨0, [], r, rfl, by omega, rfl, hrl, Hid.mk ⟨H1.out, HO.out⟩⟩
   case round =>
    clear H1 HO
    obtain ⟨j, qs, r, rfl, hj, hql, hrl, hH⟩ := hrel
    obtain ⟨hS, hO⟩ := hH.out
    by_cases hlt : j < n
    ·have hjI : (j : Int) < (n : Int) := by omega
     have H2 := Hid.mk (st_text hS (by omega))
     have HOO := Hid.mk hO
     clear hH hS hO
     go_wp2_with fail
     refine H2.out.mono ?_
     rintro e w2 ⟨rfl, h2, -⟩
     have H3 := Hid.mk (st_text h2 (by have := (rtext_rest r false).2; omega))
     clear H2 h2
     go_wp2_with fail
     refine H3.out.mono ?_
     rintro e w3 ⟨rfl, h3, -⟩
     clear H3
     obtain ⟨m, hm⟩ : ∃ m, n - j = m + 1 := ⟨n - j - 1, by omega⟩
     have HNO : Hid (decL (rtext (rtext r false).2.1 (rtext r false).2.2).1 = none ∨ (∃ x, decL (rtext (rtext r false).2.1 (rtext r false).2.2).1 = some x ∧ x.fr ≠ own) → rlN own l = none) := fun h => by rw [HOO.out, hm]; exact rlp_no h
     have HYES : Hid (∀ x, decL (rtext (rtext r false).2.1 (rtext r false).2.2).1 = some x → x.fr = own → (rtext (rtext r false).2.1 (rtext r false).2.2).2.2 = false ∧ rlN own l = rlp own m (qs.map ot ++ [⟨(rtext r false).1, x⟩]) (rtext (rtext r false).2.1 (rtext r false).2.2).2.1) := fun x a b => by rw [HOO.out, hm]; exact rlp_yes a b
     have hl1 := rtext_rest r false
     have hl2 := rtext_rest (rtext r false).2.1 (rtext r false).2.2
     have HM := Hid.mk hm
     clear HOO hm
     generalize (rtext r false).1 = kk at *
     generalize (rtext (rtext r false).2.1 (rtext r false).2.2).1 = tx at *
     generalize (rtext (rtext r false).2.1 (rtext r false).2.2).2.1 = r2 at *
     generalize (rtext (rtext r false).2.1 (rtext r false).2.2).2.2 = b2 at *
     obtain ⟨c4, W4, hcv, hr4, k4, -⟩ := bytes_of w3 tx (by simp [maxLen]; omega)
     have H4 := Hid.mk (h3.kept0 k4)
     have H75 := Hid.mk (decode18 _ tx hr4 (by omega))
     clear h3 k4 hr4
     go_wp2_with fail
     refine H75.out.mono ?_
     rintro e w5 ⟨a5, c5, rfl, hO5, k5, hf5⟩
     have H5 := Hid.mk (H4.out.kept0 k5)
     clear H75 hcv
     obtain ⟨x, hx⟩ : ∃ x, (decL tx).getD default = x := ⟨_, rfl⟩
     rw [hx] at hO5 hf5 ⊢
     obtain ⟨W6, e6, k6, hz6, hb6⟩ := box1 w5 (.cells #[Sv x.fr, .int .u64 (x.ser : Int), .int .i64 x.kind, .slice a5 x.args.length c5] 81)
     have H6 := Hid.mk (H5.out.kept0 k6)
     have E6 := Hid.mk e6
     cases hd : decL tx with
     | none =>
      have HNN := Hid.mk (HNO.out (.inl hd))
      rw [show (if (none : Option Lt).isSome = true then (0 : Int) else 2) = 2 from rfl]
      clear hd hx HYES HNO hO5 hf5 e6 k5 k6 H5 H4 HY HBD hb6
      go_wp2_with fail
      rw [E6.out]
      go_quiet (fail)
      have HS := Hid.mk (HN.out _ _ _ _ HNN.out (H6.out.kept0 ((Kept.refl [] W6).drewN nq)))
      go_wp2_with fail
      exact HS.out
     | some y =>
      rw [hd] at hx
      have hx : y = x := hx
      subst hx
      rw [show (if (some y : Option Lt).isSome = true then (0 : Int) else 2) = 0 from rfl]
      have t0 := (cells4 hb6).1
      have t1 := H6.out.isO.owner
      by_cases hfr : y.fr = own
      ·obtain ⟨hb2, ho2⟩ := HYES.out y hd hfr
       subst hb2
       have HO2 := Hid.mk ho2
       have hO6 := hO5.kept k6 (by simp)
       have HFO := Hid.mk (decL_ok hd)
       rw [← hfr] at t1
       clear hd ho2 HYES HNO hO5 e6 k5 k6 H5 H4 HN HBD HY hfr
       go_wp2_with fail
       rw [E6.out]
       go_quiet (fail)
       have H7 := Hid.mk (H6.out.kept0 ((Kept.refl [] W6).drewN nq))
       have hO7 := hO6.kept ((Kept.refl [] W6).drewN nq) (by simp)
       have hb7 : (W6.drewN nq).heap[w5.heap.size]? = _ := ((Kept.refl [] W6).drewN nq).keeps hb6 (by simp)
       generalize W6.drewN nq = W7 at H7 hO7 hb7 ⊢
       obtain ⟨s0, s1, s2, s3⟩ := cells4 hb7
       have HP := Hid.mk (push60 ⟨kk, y, a5, c5⟩ H7.out.isO (by omega) hO7)
       clear t0 t1 hb6 hb7 hO6 hO7 H6 E6 hf5
       go_wp2_with fail
       refine HP.out.mono ?_
       rintro e w8 ⟨rfl, hO8, k8⟩
       have HR : Hid (St w0 w8 p q own K (qs ++ [⟨kk, y, a5, c5⟩]) r2 false ∧ rlN own l = rlp own (n - (j + 1)) ((qs ++ [(⟨kk, y, a5, c5⟩ : Yq)]).map ot) r2) := by
        refine ⟨H7.out.stored hO8 k8, ?_⟩
        rw [HO2.out]
        have := HM.out
        have e : m = n - (j + 1) := by omega
        rw [e]
        simp [ot]
       clear hO8 k8 s0 s1 s2 s3 HP H7
       go_wp2_with fail
       go_roundw
       case rel => exact ⟨j + 1, qs ++ [⟨kk, y, a5, c5⟩], r2, by go_num, by omega, by rw [List.length_append, hql]; rfl, by omega, HR⟩
       case measure => simp [intOf]; omega
      ·have hq : (y.fr == own) = false := by simpa using hfr
       have HNN := Hid.mk (HNO.out (.inr ⟨y, hd, hfr⟩))
       clear hd HYES HNO hO5 hf5 e6 k5 k6 H5 H4 HY HBD
       go_wp2_with fail
       rw [E6.out]
       go_quiet (fail)
       have HS := Hid.mk (HN.out _ _ _ _ HNN.out (H6.out.kept0 ((Kept.refl [] W6).drewN nq)))
       go_wp2_with fail
       exact HS.out
    ·obtain rfl : j = n := by omega
     rw [Nat.sub_self, rlp] at hO
     have HS := Hid.mk (HY.out _ _ _ hO hS)
     clear hH hS hO
     go_wp2_with fail
     exact HS.out
end
end Go.Proofs.YtngnenbidpojeaaGreatDoor
