import Derived.Lib.AppendZeros
import Derived.Test.YtngnenbidpojeaaGreatDoorT06
import Derived.Test.YtngnenbidpojeaaGreatDoorT09
import Derived.Test.YtngnenbidpojeaaGreatDoorT10
import Derived.Test.YtngnenbidpojeaaGreatDoorT11
import Derived.Test.YtngnenbidpojeaaGreatDoorT15
import Derived.Test.YtngnenbidpojeaaGreatDoorT16
/-
 slices.Concat, of letters.
-/
namespace Go.Proofs.YtngnenbidpojeaaGreatDoor
set_option maxRecDepth 100000
open Go.RowKit
set_option linter.unusedVariables false
def Lsts (w : World) (Ls : List (Value × List Lq)) : Prop := ∀ x ∈ Ls, RowQ w x.1 x.2 ∧ x.1.oneCell' = true
def lens (Ls : List (Value × List Lq)) : Nat := (Ls.map fun x => x.2.length).sum
def cats (Ls : List (Value × List Lq)) : List Lq := Ls.flatMap fun x => x.2
theorem lens_cats (Ls : List (Value × List Lq)) : (cats Ls).length = lens Ls := by simp [cats, lens, List.length_flatMap]
theorem lens_take_succ {Ls : List (Value × List Lq)} {j : Nat} {x : Value × List Lq} (hx : Ls[j]? = some x) : lens (Ls.take (j + 1)) = lens (Ls.take j) + x.2.length := by
 unfold lens
 rw [List.take_add_one, hx]
 simp
theorem cats_take_succ {Ls : List (Value × List Lq)} {j : Nat} {x : Value × List Lq} (hx : Ls[j]? = some x) : cats (Ls.take (j + 1)) = cats (Ls.take j) ++ x.2 := by
 unfold cats
 rw [List.take_add_one, hx]
 simp
theorem lens_take_le (Ls : List (Value × List Lq)) (j : Nat) : lens (Ls.take j) ≤ lens Ls := by
 have : lens Ls = lens (Ls.take j) + lens (Ls.drop j) := by
  unfold lens
  rw [← List.sum_append, ← List.map_append, List.take_append_drop]
 omega
theorem CQ_app (A B : List Lq) : CQ (A ++ B) = CQ A ++ CQ B := by simp [CQ]
set_option maxHeartbeats 1000000 in
theorem grow128 (w : World) (n : Nat) (hn : n ≤ 1000000) : Calls Tryz.prog 128 #[.slice none 0 0, .int .i64 (n : Int)] w fun e w' => ∃ v, e = .returned v ∧ OwnsR 81 4 w' v (CQ []) ∧ Fresh w v ∧ Kept [] w w' := by
 by_cases h0 : n = 0
 ·subst h0
  go_enter Tryz.func128, Tryz.ntmps128
  go_wp2
  go_ret
  exact ⟨_, rfl, OwnsR.nil _ _ _, fun g hg => by simp [Value.ownBlock] at hg, Kept.refl [] w⟩
 ·obtain ⟨i0, hi, hz0, hz1, hz2⟩ := info_parts rt28.info
  have hrun := Lib.run_append_nil_zeros (P := Tryz.prog) w 26 3 26 81 i0 (.agg #[.string ⟨#[]⟩, .int .u64 0, .int .i64 0, .slice none 0 0]) .i64 .i64 rt28.under Tryz.underlying3 hi hz0 n (by omega) (by rw [hz1]; omega) (by omega) (by rw [hz2]; omega)
  have hge := grownCap_ge w n 0 81
  have hle := grownCap_le_maxLen w n 0 81 (by unfold maxLen; omega)
  generalize grownCap w n 0 81 = cp at hrun hge hle
  have hpos : 0 < n := by omega
  obtain ⟨w1, hw1⟩ : ∃ w1, w1 = w.drew.alloc (.cells (Builtin.zeroCells (Value.agg #[.string ⟨#[]⟩, .int .u64 0, .int .i64 0, .slice none 0 0]).cells n ++ Builtin.zeroCells (Value.agg #[.string ⟨#[]⟩, .int .u64 0, .int .i64 0, .slice none 0 0]).cells (cp - n)) 81) := ⟨_, rfl⟩
  have ho : OwnsR 81 4 w1 (.slice (some ⟨w.heap.size, 0, none⟩) 0 cp) [] := by
   rw [hw1]
   refine World.ownsRow_made (base := 0) (e := 81) (size := 4) w.drew _ cp (Nat.zero_le _) hle ?_
   simp [Builtin.zeroCells, Value.cells]
   omega
  have kk : Kept [] w w1 := by rw [hw1]; exact (Kept.refl [] w).drew.alloc _
  rw [← hw1] at hrun
  have Hf := Hid.mk (And.intro ho (And.intro (fun g hg => by simp [Value.ownBlock] at hg; omega : Fresh w (.slice (some ⟨w.heap.size, 0, none⟩) 0 cp)) kk))
  unfold maxLen at hle
  clear hw1 ho kk h0
  have hs1 := fun W => run_cutH rt28 W none 0 0 0 (Nat.le_refl 0)
  have hs2 := fun W => run_cutH rt28 W (some ⟨w.heap.size, 0, none⟩) n cp 0 (Nat.zero_le _)
  have e1 : cutA none 0 0 4 = none := rfl
  have e2 : cutA (some ⟨w.heap.size, 0, none⟩) cp 0 4 = some ⟨w.heap.size, 0, none⟩ := by unfold cutA; split <;> rfl
  rw [e1] at hs1
  rw [e2] at hs2
  clear e1 e2
  go_enter Tryz.func128, Tryz.ntmps128
  go_wp2_with (at_builtin; refine Lib.wpList_append_run _ rfl _ _ 26 3 rfl _ _ rfl rfl _ _ hrun ?_)
  go_ret
  exact ⟨_, rfl, Hf.out⟩
section
variable {w : World}
set_option maxHeartbeats 2000000 in
theorem concat96 (a : Option Addr) (m c : Nat) (Ls : List (Value × List Lq)) (hm : Hid (m = Ls.length)) (hrow : ReadsR 1 w (.slice a m c) (Ls.map fun x => [x.1])) (hL : Hid (Lsts w Ls)) (hml : m ≤ 100000) (hb : Hid (lens Ls ≤ 900000)) :
  Calls Tryz.prog 96 #[.slice a m c] w fun e w' => ∃ v, e = .returned v ∧ OwnsR 81 4 w' v (CQ (cats Ls)) ∧ Fresh w v ∧ Kept [] w w' := by
 obtain ⟨S, hS⟩ : ∃ S : Nat → Nat, Hid (∀ j, S j = lens (Ls.take j)) := ⟨fun j => lens (Ls.take j), Hid.mk fun _ => rfl⟩
 have HS0 : Hid (S 0 = 0) := Hid.mk (by rw [hS.out]; rfl)
 have HSb : Hid (∀ j, S j ≤ 900000) := Hid.mk fun j => by rw [hS.out]; exact Nat.le_trans (lens_take_le _ _) hb.out
 have HSs : Hid (∀ j x, Ls[j]? = some x → S (j + 1) = S j + x.2.length) := Hid.mk fun j x hx => by rw [hS.out, hS.out]; exact lens_take_succ hx
 go_enter Tryz.func96, Tryz.ntmps96
 go_wp2_with fail
 go_loopw [3, 11] (fun v i wr => ∃ j : Nat, i = .int .i64 (j : Int) ∧ j ≤ m ∧ v = .int .i64 (S j : Int) ∧ w = wr) (fun _ i _ => m - (intOf i).toNat)
 case atStart => exact ⟨0, rfl, by omega, by rw [HS0.out]; rfl, rfl⟩
 case round =>
  obtain ⟨j, rfl, hj, rfl, rfl⟩ := hrel
  have hbj := HSb.out j
  by_cases hlt : j < m
  ·obtain ⟨x, hx⟩ : ∃ x, Ls[j]? = some x := ⟨_, List.getElem?_eq_getElem (by have := hm.out; omega)⟩
   obtain ⟨b, o, c', e, hcc⟩ := hrow.at j [x.1] (by rw [List.getElem?_map, hx]; rfl)
   rw [List.length_map, ← hm.out] at e
   injection e with e _ e2
   subst e e2
   have hcell := hcc 0 x.1 rfl
   rw [Nat.mul_one, Nat.add_zero] at hcell
   obtain ⟨ax, cx, hfx, -⟩ := (hL.out x (List.mem_of_getElem? hx)).1.form
   rw [hfx] at hcell
   have HN := Hid.mk (HSs.out j x hx)
   have hbn := HSb.out (j + 1)
   generalize x.2.length = xl at HN hcell
   have hxb : S j + xl ≤ 900000 := by rw [← HN.out]; exact hbn
   clear hx hcc hfx hrow hbn
   go_wp2
   go_roundw
   case rel => exact ⟨j + 1, by go_num, by omega, by rw [HN.out]; go_num, trivial⟩
   case measure => simp [intOf]; omega
  ·obtain rfl : j = m := by omega
   have hg := grow128 w (S j) (by omega)
   generalize S j = tot at hg hbj
   clear HS0 HSb HSs hlt
   go_wp2_with fail
   refine hg.mono ?_
   rintro e w1 ⟨v1, rfl, ho1, hf1, k1⟩
   clear hg
   go_wp2_with fail
   go_loopw [6, 27] (fun u i wr => ∃ p : Nat, i = .int .i64 (p : Int) ∧ p ≤ j ∧ OwnsR 81 4 wr u (CQ (cats (Ls.take p))) ∧ Fresh w u ∧ Kept [] w wr) (fun _ i _ => j - (intOf i).toNat)
   case atStart => exact ⟨0, rfl, by omega, ho1, hf1, k1⟩
   case round =>
    clear ho1 hf1 k1
    obtain ⟨p, rfl, hp, ho, hf, k⟩ := hrel
    by_cases hlt : p < j
    ·obtain ⟨x, hx⟩ : ∃ x, Ls[p]? = some x := ⟨_, List.getElem?_eq_getElem (by have := hm.out; omega)⟩
     obtain ⟨b, o, c', e, hcc⟩ := (hrow.kept k (by simp)).at p [x.1] (by rw [List.getElem?_map, hx]; rfl)
     rw [List.length_map, ← hm.out] at e
     injection e with e _ e2
     subst e e2
     have hcell := hcc 0 x.1 rfl
     rw [Nat.mul_one, Nat.add_zero] at hcell
     have hxr := (hL.out x (List.mem_of_getElem? hx)).1
     have hl1 : (cats (Ls.take p)).length + x.2.length ≤ 900000 := by
      rw [lens_cats, ← lens_take_succ hx]
      exact Nat.le_trans (lens_take_le _ _) hb.out
     obtain ⟨ad, c4, w4, hrun, ho4, k4, hN4⟩ := run_appendR rt28 wr 26 u6 (CQ (cats (Ls.take p))) ho x.1 (CQ x.2) (CQ_wide _) (hxr.kept k (by simp)) (by rw [CQ_length, CQ_length]; omega)
     rw [← CQ_app, ← cats_take_succ hx] at ho4
     rw [CQ_length, CQ_length] at hrun ho4 hN4
     have Hall := Hid.mk (And.intro ho4 (And.intro (fun g hg => by
      rcases hN4 g hg with h | h
      ·exact hf g h
      ·exact Nat.le_trans k.size h : Fresh w (.slice ad ((cats (Ls.take p)).length + x.2.length) c4)) (k.grown k4 (fun y hy => .inr (hf y hy)) : Kept [] w w4)))
     generalize (cats (Ls.take p)).length + x.2.length = tl at *
     obtain ⟨ax, cx, hfx, -⟩ := hxr.form
     rw [hfx] at hcell hrun
     clear ho4 k4 hN4 ho hf k hx hcc hxr hrow hfx
     generalize x.2.length = xl at *
     go_wp2_with (at_builtin; refine wpList_append_run 26 26 _ _ rfl rfl _ _ rfl rfl _ _ hrun ?_)
     go_roundw
     case rel => exact ⟨p + 1, by go_num, by omega, Hall.out⟩
     case measure => simp [intOf]; omega
    ·obtain rfl : p = j := by omega
     rw [List.take_of_length_le (by have := hm.out; omega)] at ho
     have Hall := Hid.mk (And.intro ho (And.intro hf k))
     clear ho hf k
     go_wp2
     go_ret
     exact ⟨_, rfl, Hall.out⟩
end
def Wq (w0 w : World) (q : Nat) (v : Value) (l : List UInt8) : Prop := IsW 205 5 w q v l ∧ w0.heap.size ≤ q ∧ Fresh w0 v ∧ Kept [] w0 w
def NewB (w : World) (l : List UInt8) (e : Ending) (w' : World) : Prop := ∃ v, e = .returned v ∧ Owns 5 w' v l ∧ Kept [] w w' ∧ Fresh w v
section
variable {w0 w w' : World} {p q : Nat} {v : Value} {l : List UInt8}
theorem Wq.kept0 (h : Wq w0 w q v l) (k : Kept [] w w') : Wq w0 w' q v l := ⟨h.1.kept k (by simp) (by simp), h.2.1, h.2.2.1, h.2.2.2.trans k (by simp)⟩
theorem owns_ne {e : TypeId} (h : Owns e w v l) {g : Nat} {cs : Array Value} {t : TypeId} {fz : Nat × Nat} (hg : w.heap[g]? = some (.cells cs t fz)) (ht : t ≠ e) : v.ownBlock ≠ some g := fun hv => by
 rcases h.2 with ⟨rfl, _⟩ | ⟨g1, cap, cur, rfl, _, hb, _⟩
 ·simp [Value.ownBlock] at hv
 ·simp [Value.ownBlock] at hv
  subst hv
  rw [hg] at hb
  injection hb with hb
  injection hb with _ e
  exact ht e
theorem Wq.notin (h : Wq w0 w q v l) {g : Nat} {cs : Array Value} {t : TypeId} (hg : w.heap[g]? = some (.cells cs t (0, 0))) (ht : t ≠ 205 ∧ t ≠ 5) : g ∉ foot q v := fun hm => by
 rcases mem_foot.1 hm with e | e
 ·exact box_ne hg h.1.box ht.1 e
 ·exact owns_ne h.1.own hg ht.2 e
theorem Wq.laid (h : Wq w0 w q v l) {l' : List UInt8} (L : Laid 205 5 w q v l' w') : ∃ v', Wq w0 w' q v' l' ∧ Kept (foot q v) w w' := by
 obtain ⟨v', i1, i2, i3⟩ := L
 refine ⟨v', ⟨i1, h.2.1, fun g hg => ?_, h.2.2.2.trans i2 (fun x hx => ?_)⟩, i2⟩
 ·rcases i3 g hg with h' | h'
  ·exact h.2.2.1 g h'
  ·have := h.2.2.2.size; omega
 ·rcases mem_foot.1 hx with rfl | h'
  ·exact .inr h.2.1
  ·exact .inr (h.2.2.1 x h')
theorem wq_num (h : Wq w0 w q v l) {n : Nat} (hn : U64 n) (hb : l.length ≤ 1000000) : Calls Tryz.prog 64 #[.pointer (some ⟨q, 0, none⟩), Uv n] w fun e w' => e = .returned (.tuple #[]) ∧ ∃ v', Wq w0 w' q v' (l ++ enc n) ∧ Kept (foot q v) w w' := by
 refine (wnum_any q v l n w h.1 hn (by omega)).mono ?_
 rintro e w' ⟨rfl, L⟩
 exact ⟨rfl, h.laid L⟩
theorem wq_text (h : Wq w0 w q v l) (s : List UInt8) (hs : s.length ≤ 1000000) (hb : l.length ≤ 1000000) : Calls Tryz.prog 68 #[.pointer (some ⟨q, 0, none⟩), Sv s] w fun e w' => e = .returned (.tuple #[]) ∧ ∃ v', Wq w0 w' q v' (l ++ encTx s) ∧ Kept (foot q v) w w' := by
 have hz : (⟨s.toArray⟩ : ByteArray).size = s.length := by simp [ByteArray.size]
 refine (wtext_any q v l ⟨s.toArray⟩ w h.1 (by rw [hz]; omega)).mono ?_
 rintro e w' ⟨rfl, L⟩
 rw [hz] at L
 have e : l ++ enc s.length ++ s = l ++ encTx s := by unfold encTx; rw [List.append_assoc]
 have L : Laid 205 5 w q v (l ++ enc s.length ++ s) w' := L
 rw [e] at L
 exact ⟨rfl, h.laid L⟩
end
section
variable {w0 w w' : World} {p pf : Nat} {own : List UInt8} {K : List La} {qs ms : List Yq}
theorem encK_take {K : List La} {j : Nat} {y : La} (h : K[j]? = some y) : encK (K.take (j + 1)) = encK (K.take j) ++ (encTx y.k ++ enc y.s) := by
 rw [List.take_add_one, h]
 simp [encK]
theorem encY_take {L : List Ot} {j : Nat} {y : Ot} (h : L[j]? = some y) : encY (L.take (j + 1)) = encY (L.take j) ++ (encTx y.to ++ encTx (encL y.x)) := by
 rw [List.take_add_one, h]
 simp [encY]
theorem GoodO.to40 {o : Ob} (g : GoodO o) {y : Ot} (hy : y ∈ o.L) : y.x.formed = true ∧ y.to.length ≤ 40 := by
 obtain ⟨h1, h2, h3, h4⟩ := g.lets _ hy
 obtain ⟨z, hz, e⟩ := (has_mem g.rise).1 h4
 have hk := (isKey_iff _).1 (g.key z hz).1
 rw [e] at hk
 exact ⟨h2, hk.2⟩
theorem encTx_length (s : List UInt8) : (encTx s).length ≤ s.length + 9 := by
 have := enc_length s.length
 unfold encTx
 rw [List.length_append]
 omega
set_option maxHeartbeats 2000000 in
theorem encode14 (hO : IsO w p own K qs) (hg : GoodO ⟨own, K, qs.map ot⟩) : Calls Tryz.prog 67 #[.pointer (some ⟨p, 0, none⟩)] w fun e w' => NewB w (encO ⟨own, K, qs.map ot⟩) e w' := by
 have HO := Hid.mk hO
 have HG := Hid.mk hg
 have hown := (isKey_iff _).1 hg.own
 dsimp only at hown
 have hne : (!own.isEmpty) = true := by have := hg.ne.1; dsimp only at this; cases h : own with | nil => exact absurd h this | cons _ _ => rfl
 have H34 := Hid.mk (owned34 hO)
 rw [hne] at H34
 have hkn := hO.kn
 have hln := hO.ln
 have g0 : (0 : Int) ≤ (K.length : Int) := by omega
 have g1 : (K.length : Int) ≤ 64 := by omega
 have f0 : (0 : Int) ≤ (qs.length : Int) := by omega
 have f1 : (qs.length : Int) ≤ 32 := by omega
 have e0 := encTx_length own
 have e1 := enc_length K.length
 have e2 := enc_length qs.length
 clear hO hg hne
 generalize hn : K.length = n at *
 generalize hm : qs.length = m at *
 have HN := Hid.mk hn
 have HM := Hid.mk hm
 clear hn hm
 go_enter Tryz.func67, Tryz.ntmps67
 go_wp2_with fail
 refine H34.out.mono ?_
 rintro e w1 ⟨rfl, rfl⟩
 go_wp2_with fail
 refine (newW _).mono ?_
 rintro e w2 ⟨q, rfl, hW2, k2, hq2⟩
 have W2 : Wq w w2 q (.slice none 0 0) [] := ⟨hW2, hq2, fresh_nil _ _, k2⟩
 have c2 := (HO.out.kept0 k2).owner
 have H3 := Hid.mk (wq_text W2 own (by omega) (by simp))
 clear W2 hW2 k2 hq2
 go_wp2_with fail
 refine H3.out.mono ?_
 rintro e w3 ⟨rfl, v3, W3, -⟩
 clear c2 H3
 rw [List.nil_append] at W3
 have c3 := (HO.out.kept0 W3.2.2.2).known
 rw [HN.out] at c3
 have H4 := Hid.mk (wq_num W3 (n := n) (by unfold U64; omega) (by omega))
 clear W3
 go_wp2_with fail
 refine H4.out.mono ?_
 rintro e w4 ⟨rfl, v4, W4, -⟩
 clear c3 H4
 have c4 := (HO.out.kept0 W4.2.2.2).known
 rw [HN.out] at c4
 have HW4 := Hid.mk W4
 clear W4
 go_wp2_with fail
 go_quiet (fail)
 have HW5 := Hid.mk (HW4.out.kept0 ((Kept.refl [] w4).drewN nq))
 generalize w4.drewN nq = w5 at HW5 ⊢
 clear HW4 c4
 have hB1 : (encTx own ++ enc n).length ≤ 58 := by rw [List.length_append]; omega
 generalize hB : encTx own ++ enc n = B1 at *
 have HB1 := Hid.mk hB
 clear hB e0 e1
 go_wp2_with fail
 go_loopw [36] (fun i wr => ∃ j : Nat, i = .int .i64 (j : Int) ∧ j ≤ n ∧ Hid (∃ v, Wq w wr q v (B1 ++ encK (K.take j)))) (fun i _ => n - (intOf i).toNat)
 case atStart => exact ⟨0, rfl, by omega, Hid.mk ⟨v4, by simpa [encK] using HW5.out⟩⟩
 case round =>
  obtain ⟨j, rfl, hj, hH⟩ := hrel
  obtain ⟨v6, W6⟩ := hH.out
  have hOr := HO.out.kept0 W6.2.2.2
  have hlK := encK_length (K := K.take j) (fun y hy => (HG.out.key y (List.mem_of_mem_take hy)).1)
  rw [List.length_take] at hlK
  by_cases hlt : j < n
  ·have hjI : (j : Int) < (n : Int) := by omega
   have hj0 : (0 : Int) ≤ (j : Int) := by omega
   obtain ⟨y, hy⟩ : ∃ y, K[j]? = some y := ⟨_, List.getElem?_eq_getElem (by have := HN.out; omega)⟩
   obtain ⟨d0, d1⟩ := hOr.key hy
   have hyk := HG.out.key y (List.mem_of_getElem? hy)
   have hkl := (isKey_iff _).1 hyk.1
   obtain ⟨W7, e7, k7, hz7, hb7⟩ := box1 wr (.cells #[Sv y.k, Uv y.s] 164)
   have H8 := Hid.mk (wq_text (W6.kept0 k7) y.k (by omega) (by rw [List.length_append]; omega))
   have HB7 : Hid (wr.heap.size ∉ foot q v6) := (W6.kept0 k7).notin hb7 (by decide)
   have HK := Hid.mk hyk
   have HE := Hid.mk (encK_take hy)
   have E7 := Hid.mk e7
   clear hH W6 hOr hy hyk k7 hz7 e7
   go_wp2_with fail
   rw [E7.out]
   refine H8.out.mono ?_
   rintro e w8 ⟨rfl, v8, W8, k8⟩
   have hb8 := k8.keeps hb7 HB7.out
   have c81 : w8.cell? ⟨wr.heap.size, 1, none⟩ = some (Uv y.s) := IsO.cell (cs := [Sv y.k, Uv y.s]) hb8 rfl
   have hek := encTx_length y.k
   have H9 := Hid.mk (wq_num W8 HK.out.2.2 (by rw [List.length_append, List.length_append]; omega))
   clear W8 k8 hb8 H8
   go_wp2_with fail
   refine H9.out.mono ?_
   rintro e w9 ⟨rfl, v9, W9, -⟩
   have HW9 : Hid (∃ v, Wq w w9 q v (B1 ++ encK (K.take (j + 1)))) := ⟨v9, by rw [HE.out]; simpa [List.append_assoc] using W9⟩
   clear W9 c81 H9 d0 d1 hb7
   go_wp2_with fail
   go_roundw
   case rel => exact ⟨j + 1, by go_num, by omega, HW9⟩
   case measure => simp [intOf]; omega
  ·obtain rfl : j = n := by omega
   have hc := hOr.count
   rw [HM.out] at hc
   have H10 := Hid.mk (wq_num W6 (n := m) (by unfold U64; omega) (by rw [List.length_append]; omega))
   clear W6 hOr hH
   go_wp2_with fail
   refine H10.out.mono ?_
   rintro e w10 ⟨rfl, v10, W10, -⟩
   rw [List.take_of_length_le (by have := HN.out; omega)] at W10 hlK
   have hc10 := (HO.out.kept0 W10.2.2.2).count
   rw [HM.out] at hc10
   have HW10 := Hid.mk W10
   clear W10 hc H10
   go_wp2_with fail
   go_quiet (fail)
   have HW11 := Hid.mk (HW10.out.kept0 ((Kept.refl [] w10).drewN nq))
   generalize w10.drewN nq = w11 at HW11 ⊢
   clear HW10 hc10
   have hB2 : (B1 ++ encK K ++ enc m).length ≤ 4000 := by rw [List.length_append, List.length_append]; omega
   generalize hBB : B1 ++ encK K ++ enc m = B2 at *
   have HB2 := Hid.mk hBB
   clear hBB
   go_wp2_with fail
   go_loopw [65] (fun i wr => ∃ j : Nat, i = .int .i64 (j : Int) ∧ j ≤ m ∧ Hid (∃ v, Wq w wr q v (B2 ++ encY ((qs.map ot).take j)))) (fun i _ => m - (intOf i).toNat)
   case atStart => exact ⟨0, rfl, by omega, Hid.mk ⟨v10, by simpa [encY] using HW11.out⟩⟩
   case round =>
    clear HW11 HW5 hlt hlK
    obtain ⟨j, rfl, hj, hH⟩ := hrel
    obtain ⟨v6, W6⟩ := hH.out
    have hOr := HO.out.kept0 W6.2.2.2
    have hlY := encY_length (L := (qs.map ot).take j) (fun y hy => HG.out.to40 (List.mem_of_mem_take hy))
    rw [List.length_take, List.length_map, HM.out] at hlY
    by_cases hlt : j < m
    ·have hjI : (j : Int) < (m : Int) := by omega
     have hj0 : (0 : Int) ≤ (j : Int) := by omega
     obtain ⟨y, hy⟩ : ∃ y, qs[j]? = some y := ⟨_, List.getElem?_eq_getElem (by have := HM.out; omega)⟩
     have hyL : (qs.map ot)[j]? = some (ot y) := by rw [List.getElem?_map, hy]; rfl
     obtain ⟨d0, d1, d2, d3, d4⟩ := hOr.at hy
     have hym := List.mem_of_getElem? hyL
     obtain ⟨hfo, hto⟩ := HG.out.to40 hym
     have hok : y.q.x.ok := (HG.out.lets _ hym).1
     have hfo : y.q.x.formed = true := hfo
     have hto : y.to.length ≤ 40 := hto
     have harg := hOr.args y (List.mem_of_getElem? hy)
     obtain ⟨W7, e7, k7, hz7, hb7⟩ := box1 wr (.cells #[Sv y.to, Sv y.q.x.fr, .int .u64 (y.q.x.ser : Int), .int .i64 y.q.x.kind, .slice y.q.ad y.q.x.args.length y.q.cap] 130)
     have d4 : wr.cell? ⟨p, 130 + j * 5 + 4, none⟩ = some (.slice y.q.ad y.q.x.args.length y.q.cap) := d4
     have HX : Hid (Calls Tryz.prog 111 #[Lv y.q.x y.q.ad y.q.cap] W7 fun e w' => TwoB W7 (encL y.q.x) 0 e w') := by
      have := encode11 y.q.x y.q.ad y.q.cap (harg.reads.kept k7 (by simp)) hok
      have e1 : encB y.q.x = encL y.q.x := by simp [encB, hfo]
      have e2 : encE y.q.x = 0 := by simp [encE, hfo]
      rw [e1, e2] at this
      exact this
     have W7q := Hid.mk (W6.kept0 k7)
     have HE := Hid.mk (encY_take hyL)
     have E7 := Hid.mk e7
     have hxl := encL_length y.q.x
     have hfl := formed_le hfo
     clear hH W6 hOr hy hyL hym k7 hz7 e7 harg hok hfo
     go_wp2_with fail
     rw [E7.out]
     refine HX.out.mono ?_
     rintro e w8 ⟨v8, rfl, hO8, k8, hf8⟩
     have W8q := W7q.out.kept0 k8
     have hb8 := k8.keeps hb7 (by simp)
     have c80 := (cells5 hb8).1
     have hft8 := W8q.notin hb8 (by decide)
     have HV : Hid (∀ W, Kept (foot q v6) w8 W → Reads W v8 (encL y.q.x)) := fun W k => hO8.reads.kept k (fun g hg hm => by
      have h1 := hf8 g hg
      rcases mem_foot.1 hm with rfl | h
      ·have := W7q.out.1.lt; omega
      ·have := W7q.out.1.own.lt h; omega)
     obtain ⟨a8, n8, rfl⟩ := hO8.form
     have H9 := Hid.mk (wq_text W8q y.to (by omega) (by rw [List.length_append]; omega))
     clear W8q hO8 k8 hf8 HX hb8 W7q
     go_wp2_with fail
     refine H9.out.mono ?_
     rintro e w9 ⟨rfl, v9, W9, k9⟩
     have hst := string_of 73 5 Tryz.underlying73 9 Tryz.underlying5 Tryz.underlying9 _ _ _ (HV.out _ k9)
     have het := encTx_length y.to
     have H10 := Hid.mk (wq_text W9 (encL y.q.x) (by omega) (by rw [List.length_append, List.length_append]; omega))
     clear W9 k9 H9 HV c80
     go_wp2_with fail
     refine H10.out.mono ?_
     rintro e w12 ⟨rfl, v12, W12, -⟩
     have HW12 : Hid (∃ v, Wq w w12 q v (B2 ++ encY ((qs.map ot).take (j + 1)))) := ⟨v12, by rw [HE.out]; simpa [List.append_assoc, ot] using W12⟩
     clear W12 H10 hst d0 d1 d2 d3 d4 hb7
     go_wp2_with fail
     go_roundw
     case rel => exact ⟨j + 1, by go_num, by omega, HW12⟩
     case measure => simp [intOf]; omega
    ·obtain rfl : j = m := by omega
     have HBt := Hid.mk (wbytes_any q v6 _ wr W6.1 (by rw [List.length_append]; omega))
     have HKr := Hid.mk W6.2.2.2
     clear W6 hOr hH
     go_wp2_with fail
     refine HBt.out.mono ?_
     rintro e w13 ⟨v13, rfl, hO13, k13, hf13⟩
     go_wp2_with fail
     go_ret
     refine ⟨v13, rfl, ?_, HKr.out.trans k13 (by simp), fun g hg => ?_⟩
     ·rw [List.take_of_length_le (by rw [List.length_map]; have := HM.out; omega), ← HB2.out, ← HB1.out] at hO13
      unfold encO
      dsimp only
      rw [List.length_map, HN.out, HM.out]
      simpa [List.append_assoc] using hO13
     ·have := hf13 g hg
      have := HKr.out.size
      omega
end
structure ActP (w : World) (p : Nat) (a : Ac) (pj pi po : Nat) (av : Option Addr) (cv : Nat) (qs : List Lq) (ys : List Yq) (ms : List Lq) : Prop where
 box : w.heap[p]? = some (.cells #[Ptr pj, Ptr pi, Ptr po, Iv a.tries, .slice av a.poi.length cv] 66 (0, 0))
 j : IsJ w pj a.j
 i : IsB w pi qs
 iq : qs.map (·.x) = a.inb
 o : IsO w po a.out.own a.out.K ys
 oy : ys.map ot = a.out.L
 row : RowQ w (.slice av a.poi.length cv) ms
 vals : ValsQ w ms
 pm : ms.map (·.x) = a.poi
 g : GoodP a
def IsAct (w : World) (p : Nat) (a : Ac) : Prop := ∃ pj pi po av cv qs ys ms, ActP w p a pj pi po av cv qs ys ms
section
variable {w w' : World} {p pj pi po : Nat} {a : Ac} {av : Option Addr} {cv : Nat} {qs ms : List Lq} {ys : List Yq}
theorem ActP.kept0 (h : ActP w p a pj pi po av cv qs ys ms) (k : Kept [] w w') : ActP w' p a pj pi po av cv qs ys ms :=
 ⟨k.keeps h.box (by simp), h.j.kept0 k, h.i.kept0 k, h.iq, h.o.kept0 k, h.oy, h.row.kept k (by simp), h.vals.kept0 k, h.pm, h.g⟩
theorem IsAct.kept0 (h : IsAct w p a) (k : Kept [] w w') : IsAct w' p a := by
 obtain ⟨pj, pi, po, av, cv, qs, ys, ms, h⟩ := h
 exact ⟨pj, pi, po, av, cv, qs, ys, ms, h.kept0 k⟩
theorem ActP.cells (h : ActP w p a pj pi po av cv qs ys ms) : w.cell? ⟨p, 0, none⟩ = some (Ptr pj) ∧ w.cell? ⟨p, 1, none⟩ = some (Ptr pi) ∧ w.cell? ⟨p, 2, none⟩ = some (Ptr po) ∧ w.cell? ⟨p, 3, none⟩ = some (Iv a.tries) ∧ w.cell? ⟨p, 4, none⟩ = some (.slice av a.poi.length cv) := by
 have h := h.box
 refine ⟨?_, ?_, ?_, ?_, ?_⟩ <;> (unfold World.cell?; rw [h]; rfl)
theorem ActP.ql (h : ActP w p a pj pi po av cv qs ys ms) : qs.length = a.inb.length := by rw [← h.iq, List.length_map]
def keepsA (a : Ac) : Bool := decide (0 ≤ a.tries) && decide (a.tries < 3) && (decide (a.tries = 0) || decide (0 < a.inb.length)) && decide (a.poi.length ≤ 8)
theorem keepsA_iff (a : Ac) : keepsA a = true ↔ 0 ≤ a.tries ∧ a.tries < 3 ∧ (a.tries = 0 ∨ 0 < a.inb.length) ∧ a.poi.length ≤ 8 := by
 simp [keepsA, and_assoc]
theorem key15 (h : IsAct w p a) : Calls Tryz.prog 44 #[Ptr p] w fun e w' => e = .returned (Sv a.out.own) ∧ Kept [] w w' := by
 obtain ⟨pj, pi, po, av, cv, qs, ys, ms, h⟩ := h
 obtain ⟨d0, d1, d2, d3, d4⟩ := h.cells
 have HO := Hid.mk (owner24 h.o (by have := h.g.out.ne.2; omega))
 clear h
 go_enter Tryz.func44, Tryz.ntmps44
 go_wp2_with fail
 refine HO.out.mono ?_
 rintro e w1 ⟨rfl, k1⟩
 go_wp2_with fail
 go_ret
 exact ⟨rfl, k1⟩
set_option maxHeartbeats 4000000 in
theorem keeps20 (h : IsAct w p a) : Calls Tryz.prog 61 #[Ptr p] w fun e w' => e = .returned (.bool (keepsA a)) ∧ Kept [] w w' := by
 obtain ⟨pj, pi, po, av, cv, qs, ys, ms, h⟩ := h
 have hne : (a.out.own == []) = false := by have := h.g.out.ne.1; simpa using this
 have hql := h.ql
 obtain ⟨hb1, hb2, hb3⟩ := h.row.bound
 obtain ⟨d0, d1, d2, d3, d4⟩ := h.cells
 have HO := Hid.mk (owner24 h.o (by have := h.g.out.ne.2; omega))
 have HA := Hid.mk h
 have HI := Hid.mk (keepsA_iff a)
 generalize keepsA a = R at *
 generalize hT : a.tries = t at *
 generalize hM : a.inb.length = n at *
 generalize hPl : a.poi.length = m at *
 have HT := Hid.mk (And.intro hT (And.intro hM hPl))
 clear h hT hM hPl hb1
 have no : ¬ (0 ≤ t ∧ t < 3 ∧ (t = 0 ∨ 0 < n) ∧ m ≤ 8) → Hid (R = false) := fun h' => by
  cases hS : R with
  | false => exact Hid.mk rfl
  | true => exact absurd (HI.out.1 hS) h'
 have yes : (0 ≤ t ∧ t < 3 ∧ (t = 0 ∨ 0 < n) ∧ m ≤ 8) → Hid (R = true) := fun h' => Hid.mk (HI.out.2 h')
 go_enter Tryz.func61, Tryz.ntmps61
 go_wp2_with fail
 refine HO.out.mono ?_
 rintro e w1 ⟨rfl, k1⟩
 have h1 := HA.out.kept0 k1
 obtain ⟨e0, e1, e2, e3, e4⟩ := h1.cells
 rw [HT.out.1] at e3
 rw [HT.out.2.2] at e4
 have HLn := Hid.mk (len21 h1.i)
 rw [hql] at HLn
 have HK1 := Hid.mk k1
 clear h1 k1 d0 d1 d2 d3 d4 HO HA
 generalize a.out.own = own at *
 cases own with
 | nil => simp at hne
 | cons u own =>
  clear hne
  by_cases h0 : t < 0
  ·have g0 : (0 ≤ t) = False := eq_false (by omega)
   have hR := no (by omega)
   clear no yes
   go_wp2_with fail
   go_ret
   rw [hR.out]
   exact ⟨rfl, HK1.out⟩
  ·have g0 : 0 ≤ t := by omega
   by_cases h3 : t < 3
   ·by_cases hz : t = 0
    ·subst hz
     by_cases h8 : m ≤ 8
     ·have g8 : (m : Int) ≤ 8 := by omega
      have hR := yes (by omega)
      clear no yes
      go_wp2_with fail
      go_ret
      rw [hR.out]
      exact ⟨rfl, HK1.out⟩
     ·have g8 : ((m : Int) ≤ 8) = False := eq_false (by omega)
      have hR := no (by omega)
      clear no yes
      go_wp2_with fail
      go_ret
      rw [hR.out]
      exact ⟨rfl, HK1.out⟩
    ·have gz : (t == 0) = false := beq_eq_false_iff_ne.2 hz
     by_cases hn : 0 < n
     ·have gn : (0 : Int) < (n : Int) := by omega
      by_cases h8 : m ≤ 8
      ·have g8 : (m : Int) ≤ 8 := by omega
       have hR := yes (by omega)
       clear no yes
       go_wp2_with fail
       refine HLn.out.mono ?_
       rintro e w2 ⟨rfl, rfl⟩
       go_wp2_with fail
       go_ret
       rw [hR.out]
       exact ⟨rfl, HK1.out⟩
      ·have g8 : ((m : Int) ≤ 8) = False := eq_false (by omega)
       have hR := no (by omega)
       clear no yes
       go_wp2_with fail
       refine HLn.out.mono ?_
       rintro e w2 ⟨rfl, rfl⟩
       go_wp2_with fail
       go_ret
       rw [hR.out]
       exact ⟨rfl, HK1.out⟩
     ·have hR := no (by omega)
      have hn0 : n = 0 := by omega
      clear no yes
      subst hn0
      go_wp2_with fail
      refine HLn.out.mono ?_
      rintro e w2 ⟨rfl, rfl⟩
      go_wp2_with fail
      go_ret
      rw [hR.out]
      exact ⟨rfl, HK1.out⟩
   ·have g3 : (t < 3) = False := eq_false h3
    have hR := no (by omega)
    clear no yes
    go_wp2_with fail
    go_ret
    rw [hR.out]
    exact ⟨rfl, HK1.out⟩
theorem str22 {v : Value} {l : List UInt8} (h : Reads w v l) : (convert 73 9 v).run Tryz.prog w = .ok (Sv l) w := string_of 73 5 Tryz.underlying73 9 Tryz.underlying5 Tryz.underlying9 v l w h
theorem beq_dec (l m : List UInt8) : (l == m) = decide (l = m) := by
 rw [Bool.eq_iff_iff]
 simp
theorem equal111 {v u : Value} {l m : List UInt8} (hv : Reads w v l) (hu : Reads w u m) : Calls Tryz.prog 138 #[v, u] w fun e w' => e = .returned (.bool (decide (l = m))) ∧ w = w' := by
 have c1 := str22 hv
 have c2 := str22 hu
 obtain ⟨a1, n1, rfl, -, -⟩ := hv
 obtain ⟨a2, n2, rfl, -, -⟩ := hu
 go_enter Tryz.func138, Tryz.ntmps138
 go_wp2_with fail
 go_ret
 refine ⟨?_, rfl⟩
 show Ending.returned (.bool (l == m)) = _
 rw [beq_dec]
theorem sent67 {own : List UInt8} {K : List La} (hO : IsO w po own K ys) (hg : GoodO ⟨own, K, ys.map ot⟩) : Calls Tryz.prog 107 #[Ptr po] w fun e w' => e = .returned (.bool (!(K.isEmpty && ys.isEmpty))) ∧ Kept [] w w' := by
 have HO := Hid.mk hO
 have HG := Hid.mk hg
 have H24 := Hid.mk (owner24 hO (by have := hg.ne.2; dsimp only at this; omega))
 clear hO hg
 go_enter Tryz.func107, Tryz.ntmps107
 go_wp2_with fail
 refine H24.out.mono ?_
 rintro e w1 ⟨rfl, k1⟩
 have H11 := Hid.mk (new11 (w := w1) own HG.out.own)
 have HK1 := Hid.mk k1
 clear k1 H24
 go_wp2_with fail
 refine H11.out.mono ?_
 rintro e w2 ⟨po2, rfl, hO2, k2, -⟩
 have HO2 := Hid.mk hO2
 have HK2 := Hid.mk (HK1.out.trans k2 (by simp))
 clear hO2 k2 HK1 H11
 have H14 := Hid.mk (encode14 (HO.out.kept0 HK2.out) HG.out)
 go_wp2_with fail
 refine H14.out.mono ?_
 rintro e w3 ⟨v3, rfl, hv3, k3, -⟩
 have H15 := Hid.mk (encode14 (HO2.out.kept0 k3) (GoodO.new HG.out.own))
 have HV3 := Hid.mk hv3
 have HK3 := Hid.mk (HK2.out.trans k3 (by simp))
 clear hv3 k3 H14 HK2
 go_wp2_with fail
 refine H15.out.mono ?_
 rintro e w4 ⟨v4, rfl, hv4, k4, -⟩
 have HE := Hid.mk (equal111 (HV3.out.kept k4 (by simp)).reads hv4.reads)
 have HK4 := Hid.mk (HK3.out.trans k4 (by simp))
 clear hv4 k4 HV3 H15 HK3
 go_wp2_with fail
 refine HE.out.mono ?_
 rintro e w5 ⟨rfl, rfl⟩
 go_wp2_with fail
 go_ret
 refine ⟨?_, HK4.out⟩
 have := encO_new HG.out
 dsimp only at this
 have e : decide (encO ⟨own, K, ys.map ot⟩ = encO ⟨own, [], []⟩) = (K.isEmpty && ys.isEmpty) := by
  rw [Bool.eq_iff_iff, decide_eq_true_iff, this]
  simp
 rw [e]
 rfl
end
end Go.Proofs.YtngnenbidpojeaaGreatDoor
