import Derived.Lib.AppendZeros
import Derived.Test.YtgpbhlfdlkemjaaGreatQ16
/-
  slices.Concat, of items and of nodes.
-/
namespace Go.Proofs.YtgpbhlfdlkemjaaGreat
open Go.RowKit
set_option linter.unusedVariables false

/-- Slices that read as lists of pointers. -/
def Lsts (w : World) (Ls : List (Value × List Nat)) : Prop := ∀ x ∈ Ls, ReadsP w x.1 x.2 ∧ x.1.oneCell' = true
def lens (Ls : List (Value × List Nat)) : Nat := (Ls.map fun x => x.2.length).sum
def cats (Ls : List (Value × List Nat)) : List Nat := Ls.flatMap fun x => x.2
theorem lens_cats (Ls : List (Value × List Nat)) : (cats Ls).length = lens Ls := by simp [cats, lens, List.length_flatMap]
theorem lens_take_succ {Ls : List (Value × List Nat)} {j : Nat} {x : Value × List Nat} (hx : Ls[j]? = some x) : lens (Ls.take (j + 1)) = lens (Ls.take j) + x.2.length := by
  unfold lens
  rw [List.take_add_one, hx]
  simp
theorem cats_take_succ {Ls : List (Value × List Nat)} {j : Nat} {x : Value × List Nat} (hx : Ls[j]? = some x) : cats (Ls.take (j + 1)) = cats (Ls.take j) ++ x.2 := by
  unfold cats
  rw [List.take_add_one, hx]
  simp
theorem lens_take_le (Ls : List (Value × List Nat)) (j : Nat) : lens (Ls.take j) ≤ lens Ls := by
  have : lens Ls = lens (Ls.take j) + lens (Ls.drop j) := by
    unfold lens
    rw [← List.sum_append, ← List.map_append, List.take_append_drop]
  omega
set_option maxRecDepth 100000 in
set_option maxHeartbeats 1000000 in
theorem growI_any (w : World) (n : Nat) (hn : n ≤ 1000000) : Calls Tryz.prog 150 #[.slice none 0 0, .int .i64 (n : Int)] w fun e w' => ∃ v, e = .returned v ∧ OwnsP 100 w' v [] ∧ Fresh w v ∧ Kept [] w w' := by
  by_cases h0 : n = 0
  · subst h0
    go_enter Tryz.func150, Tryz.ntmps150
    go_wp2
    go_ret
    exact ⟨_, rfl, OwnsP.nil _ _, fun g hg => by simp [Value.ownBlock] at hg, Kept.refl [] w⟩
  · obtain ⟨i0, hi, hz0, hz1, hz2⟩ := info_parts rt111.info
    have hrun := Lib.run_append_nil_zeros (P := Tryz.prog) w 111 3 111 100 i0 (.pointer none) .i64 .i64 rt111.under Tryz.underlying3 hi hz0 n (by omega) (by rw [hz1]; omega) (by omega) (by rw [hz2]; omega)
    have hge := grownCap_ge w n 0 100
    have hle := grownCap_le_maxLen w n 0 100 (by unfold maxLen; omega)
    generalize grownCap w n 0 100 = cp at hrun hge hle
    have hpos : 0 < n := by omega
    obtain ⟨w1, hw1⟩ : ∃ w1, w1 = w.drew.alloc (.cells (Builtin.zeroCells (Value.pointer none).cells n ++ Builtin.zeroCells (Value.pointer none).cells (cp - n)) 100) := ⟨_, rfl⟩
    have ho : OwnsP 100 w1 (.slice (some ⟨w.heap.size, 0, none⟩) 0 cp) [] := by
      rw [hw1]
      refine World.ownsRow_made (base := 0) (e := 100) (size := 1) w.drew _ cp (Nat.zero_le _) hle ?_
      simp [Builtin.zeroCells, Value.cells]
      omega
    have kk : Kept [] w w1 := by rw [hw1]; exact (Kept.refl [] w).drew.alloc _
    rw [← hw1] at hrun
    have Hf := Hid.mk (And.intro ho (And.intro (fun g hg => by simp [Value.ownBlock] at hg; omega : Fresh w (.slice (some ⟨w.heap.size, 0, none⟩) 0 cp)) kk))
    unfold maxLen at hle
    clear hw1 ho kk h0
    have hs1 := fun W => run_cutH rt111 W none 0 0 0 (Nat.le_refl 0)
    have hs2 := fun W => run_cutH rt111 W (some ⟨w.heap.size, 0, none⟩) n cp 0 (Nat.zero_le _)
    have e1 : cutA none 0 0 1 = none := rfl
    have e2 : cutA (some ⟨w.heap.size, 0, none⟩) cp 0 1 = some ⟨w.heap.size, 0, none⟩ := by unfold cutA; split <;> rfl
    rw [e1] at hs1
    rw [e2] at hs2
    clear e1 e2
    go_enter Tryz.func150, Tryz.ntmps150
    go_wp2_with (at_builtin; refine Lib.wpList_append_run _ rfl _ _ 111 3 rfl _ _ rfl rfl _ _ hrun ?_)
    go_ret
    exact ⟨_, rfl, Hf.out⟩
section
variable {w : World}
set_option maxRecDepth 100000 in
set_option maxHeartbeats 2000000 in
theorem concatI_any (a : Option Addr) (m c : Nat) (Ls : List (Value × List Nat)) (hm : Hid (m = Ls.length)) (hrow : ReadsR 1 w (.slice a m c) (Ls.map fun x => [x.1])) (hL : Hid (Lsts w Ls)) (hml : m ≤ 100000) (hb : Hid (lens Ls ≤ 900000)) :
    Calls Tryz.prog 124 #[.slice a m c] w fun e w' => ∃ v, e = .returned v ∧ OwnsP 100 w' v (cats Ls) ∧ Fresh w v ∧ Kept [] w w' := by
  obtain ⟨S, hS⟩ : ∃ S : Nat → Nat, Hid (∀ j, S j = lens (Ls.take j)) := ⟨fun j => lens (Ls.take j), Hid.mk fun _ => rfl⟩
  have HS0 : Hid (S 0 = 0) := Hid.mk (by rw [hS.out]; rfl)
  have HSb : Hid (∀ j, S j ≤ 900000) := Hid.mk fun j => by rw [hS.out]; exact Nat.le_trans (lens_take_le _ _) hb.out
  have HSs : Hid (∀ j x, Ls[j]? = some x → S (j + 1) = S j + x.2.length) := Hid.mk fun j x hx => by rw [hS.out, hS.out]; exact lens_take_succ hx
  go_enter Tryz.func124, Tryz.ntmps124
  go_wp2_with fail
  go_loopw [3, 11] (fun v i wr => ∃ j : Nat, i = .int .i64 (j : Int) ∧ j ≤ m ∧ v = .int .i64 (S j : Int) ∧ w = wr) (fun _ i _ => m - (intOf i).toNat)
  case atStart => exact ⟨0, rfl, by omega, by rw [HS0.out]; rfl, rfl⟩
  case round =>
    obtain ⟨j, rfl, hj, rfl, rfl⟩ := hrel
    have hbj := HSb.out j
    by_cases hlt : j < m
    · obtain ⟨x, hx⟩ : ∃ x, Ls[j]? = some x := ⟨_, List.getElem?_eq_getElem (by have := hm.out; omega)⟩
      obtain ⟨b, o, c', e, hcc⟩ := hrow.at j [x.1] (by rw [List.getElem?_map, hx]; rfl)
      rw [List.length_map, ← hm.out] at e
      injection e with e _ e2
      subst e e2
      have hcell := hcc 0 x.1 rfl
      rw [Nat.mul_one, Nat.add_zero] at hcell
      obtain ⟨ax, cx, hfx, -⟩ := (hL.out x (List.mem_of_getElem? hx)).1.form
      rw [hfx] at hcell
      have HN := Hid.mk (HSs.out j x hx)
      have hbn := HSb.out (j + 1)
      generalize x.2.length = xl at HN hcell
      have hxb : S j + xl ≤ 900000 := by rw [← HN.out]; exact hbn
      clear hx hcc hfx hrow hbn
      go_wp2
      go_roundw
      case rel => exact ⟨j + 1, by go_num, by omega, by rw [HN.out]; go_num, trivial⟩
      case measure => simp [intOf]; omega
    · obtain rfl : j = m := by omega
      have hg := growI_any w (S j) (by omega)
      generalize S j = tot at hg hbj
      clear HS0 HSb HSs hlt
      go_wp2_with fail
      refine hg.mono ?_
      rintro e w1 ⟨v1, rfl, ho1, hf1, k1⟩
      clear hg
      go_wp2_with fail
      go_loopw [6, 27] (fun u i wr => ∃ p : Nat, i = .int .i64 (p : Int) ∧ p ≤ j ∧ OwnsP 100 wr u (cats (Ls.take p)) ∧ Fresh w u ∧ Kept [] w wr) (fun _ i _ => j - (intOf i).toNat)
      case atStart => exact ⟨0, rfl, by omega, ho1, hf1, k1⟩
      case round =>
        clear ho1 hf1 k1
        obtain ⟨p, rfl, hp, ho, hf, k⟩ := hrel
        by_cases hlt : p < j
        · obtain ⟨x, hx⟩ : ∃ x, Ls[p]? = some x := ⟨_, List.getElem?_eq_getElem (by have := hm.out; omega)⟩
          obtain ⟨b, o, c', e, hcc⟩ := (hrow.kept k (by simp)).at p [x.1] (by rw [List.getElem?_map, hx]; rfl)
          rw [List.length_map, ← hm.out] at e
          injection e with e _ e2
          subst e e2
          have hcell := hcc 0 x.1 rfl
          rw [Nat.mul_one, Nat.add_zero] at hcell
          have hxr := (hL.out x (List.mem_of_getElem? hx)).1
          have hl1 : (cats (Ls.take p)).length + x.2.length ≤ 900000 := by
            rw [lens_cats, ← lens_take_succ hx]
            exact Nat.le_trans (lens_take_le _ _) hb.out
          obtain ⟨ad, c4, w4, hrun, ho4, k4, hN4⟩ := run_appendP rt111 wr 111 u6 (cats (Ls.take p)) ho x.1 x.2 (hxr.kept k (by simp)) (by omega)
          rw [← cats_take_succ hx] at ho4
          have Hall := Hid.mk (And.intro ho4 (And.intro (fun g hg => by
            rcases hN4 g hg with h | h
            · exact hf g h
            · exact Nat.le_trans k.size h : Fresh w (.slice ad ((cats (Ls.take p)).length + x.2.length) c4)) (k.trans k4 (fun y hy => .inr (hf y (by simpa using hy))) : Kept [] w w4)))
          generalize (cats (Ls.take p)).length + x.2.length = tl at *
          obtain ⟨ax, cx, hfx, -⟩ := hxr.form
          rw [hfx] at hcell hrun
          clear ho4 k4 hN4 ho hf k hx hcc hxr hrow hfx
          generalize x.2.length = xl at *
          go_wp2_with (at_builtin; refine wpList_append_run 111 _ _ rfl rfl _ _ rfl rfl _ _ hrun ?_)
          go_roundw
          case rel => exact ⟨p + 1, by go_num, by omega, Hall.out⟩
          case measure => simp [intOf]; omega
        · obtain rfl : p = j := by omega
          rw [List.take_of_length_le (by have := hm.out; omega)] at ho
          have Hall := Hid.mk (And.intro ho (And.intro hf k))
          clear ho hf k
          go_wp2
          go_ret
          exact ⟨_, rfl, Hall.out⟩
end
set_option maxRecDepth 100000 in
set_option maxHeartbeats 1000000 in
theorem growN_any (w : World) (n : Nat) (hn : n ≤ 1000000) : Calls Tryz.prog 151 #[.slice none 0 0, .int .i64 (n : Int)] w fun e w' => ∃ v, e = .returned v ∧ OwnsP 77 w' v [] ∧ Fresh w v ∧ Kept [] w w' := by
  by_cases h0 : n = 0
  · subst h0
    go_enter Tryz.func151, Tryz.ntmps151
    go_wp2
    go_ret
    exact ⟨_, rfl, OwnsP.nil _ _, fun g hg => by simp [Value.ownBlock] at hg, Kept.refl [] w⟩
  · obtain ⟨i0, hi, hz0, hz1, hz2⟩ := info_parts rt112.info
    have hrun := Lib.run_append_nil_zeros (P := Tryz.prog) w 112 3 112 77 i0 (.pointer none) .i64 .i64 rt112.under Tryz.underlying3 hi hz0 n (by omega) (by rw [hz1]; omega) (by omega) (by rw [hz2]; omega)
    have hge := grownCap_ge w n 0 77
    have hle := grownCap_le_maxLen w n 0 77 (by unfold maxLen; omega)
    generalize grownCap w n 0 77 = cp at hrun hge hle
    have hpos : 0 < n := by omega
    obtain ⟨w1, hw1⟩ : ∃ w1, w1 = w.drew.alloc (.cells (Builtin.zeroCells (Value.pointer none).cells n ++ Builtin.zeroCells (Value.pointer none).cells (cp - n)) 77) := ⟨_, rfl⟩
    have ho : OwnsP 77 w1 (.slice (some ⟨w.heap.size, 0, none⟩) 0 cp) [] := by
      rw [hw1]
      refine World.ownsRow_made (base := 0) (e := 77) (size := 1) w.drew _ cp (Nat.zero_le _) hle ?_
      simp [Builtin.zeroCells, Value.cells]
      omega
    have kk : Kept [] w w1 := by rw [hw1]; exact (Kept.refl [] w).drew.alloc _
    rw [← hw1] at hrun
    have Hf := Hid.mk (And.intro ho (And.intro (fun g hg => by simp [Value.ownBlock] at hg; omega : Fresh w (.slice (some ⟨w.heap.size, 0, none⟩) 0 cp)) kk))
    unfold maxLen at hle
    clear hw1 ho kk h0
    have hs1 := fun W => run_cutH rt112 W none 0 0 0 (Nat.le_refl 0)
    have hs2 := fun W => run_cutH rt112 W (some ⟨w.heap.size, 0, none⟩) n cp 0 (Nat.zero_le _)
    have e1 : cutA none 0 0 1 = none := rfl
    have e2 : cutA (some ⟨w.heap.size, 0, none⟩) cp 0 1 = some ⟨w.heap.size, 0, none⟩ := by unfold cutA; split <;> rfl
    rw [e1] at hs1
    rw [e2] at hs2
    clear e1 e2
    go_enter Tryz.func151, Tryz.ntmps151
    go_wp2_with (at_builtin; refine Lib.wpList_append_run _ rfl _ _ 112 3 rfl _ _ rfl rfl _ _ hrun ?_)
    go_ret
    exact ⟨_, rfl, Hf.out⟩
section
variable {w : World}
set_option maxRecDepth 100000 in
set_option maxHeartbeats 2000000 in
theorem concatN_any (a : Option Addr) (m c : Nat) (Ls : List (Value × List Nat)) (hm : Hid (m = Ls.length)) (hrow : ReadsR 1 w (.slice a m c) (Ls.map fun x => [x.1])) (hL : Hid (Lsts w Ls)) (hml : m ≤ 100000) (hb : Hid (lens Ls ≤ 900000)) :
    Calls Tryz.prog 125 #[.slice a m c] w fun e w' => ∃ v, e = .returned v ∧ OwnsP 77 w' v (cats Ls) ∧ Fresh w v ∧ Kept [] w w' := by
  obtain ⟨S, hS⟩ : ∃ S : Nat → Nat, Hid (∀ j, S j = lens (Ls.take j)) := ⟨fun j => lens (Ls.take j), Hid.mk fun _ => rfl⟩
  have HS0 : Hid (S 0 = 0) := Hid.mk (by rw [hS.out]; rfl)
  have HSb : Hid (∀ j, S j ≤ 900000) := Hid.mk fun j => by rw [hS.out]; exact Nat.le_trans (lens_take_le _ _) hb.out
  have HSs : Hid (∀ j x, Ls[j]? = some x → S (j + 1) = S j + x.2.length) := Hid.mk fun j x hx => by rw [hS.out, hS.out]; exact lens_take_succ hx
  go_enter Tryz.func125, Tryz.ntmps125
  go_wp2_with fail
  go_loopw [3, 11] (fun v i wr => ∃ j : Nat, i = .int .i64 (j : Int) ∧ j ≤ m ∧ v = .int .i64 (S j : Int) ∧ w = wr) (fun _ i _ => m - (intOf i).toNat)
  case atStart => exact ⟨0, rfl, by omega, by rw [HS0.out]; rfl, rfl⟩
  case round =>
    obtain ⟨j, rfl, hj, rfl, rfl⟩ := hrel
    have hbj := HSb.out j
    by_cases hlt : j < m
    · obtain ⟨x, hx⟩ : ∃ x, Ls[j]? = some x := ⟨_, List.getElem?_eq_getElem (by have := hm.out; omega)⟩
      obtain ⟨b, o, c', e, hcc⟩ := hrow.at j [x.1] (by rw [List.getElem?_map, hx]; rfl)
      rw [List.length_map, ← hm.out] at e
      injection e with e _ e2
      subst e e2
      have hcell := hcc 0 x.1 rfl
      rw [Nat.mul_one, Nat.add_zero] at hcell
      obtain ⟨ax, cx, hfx, -⟩ := (hL.out x (List.mem_of_getElem? hx)).1.form
      rw [hfx] at hcell
      have HN := Hid.mk (HSs.out j x hx)
      have hbn := HSb.out (j + 1)
      generalize x.2.length = xl at HN hcell
      have hxb : S j + xl ≤ 900000 := by rw [← HN.out]; exact hbn
      clear hx hcc hfx hrow hbn
      go_wp2
      go_roundw
      case rel => exact ⟨j + 1, by go_num, by omega, by rw [HN.out]; go_num, trivial⟩
      case measure => simp [intOf]; omega
    · obtain rfl : j = m := by omega
      have hg := growN_any w (S j) (by omega)
      generalize S j = tot at hg hbj
      clear HS0 HSb HSs hlt
      go_wp2_with fail
      refine hg.mono ?_
      rintro e w1 ⟨v1, rfl, ho1, hf1, k1⟩
      clear hg
      go_wp2_with fail
      go_loopw [6, 27] (fun u i wr => ∃ p : Nat, i = .int .i64 (p : Int) ∧ p ≤ j ∧ OwnsP 77 wr u (cats (Ls.take p)) ∧ Fresh w u ∧ Kept [] w wr) (fun _ i _ => j - (intOf i).toNat)
      case atStart => exact ⟨0, rfl, by omega, ho1, hf1, k1⟩
      case round =>
        clear ho1 hf1 k1
        obtain ⟨p, rfl, hp, ho, hf, k⟩ := hrel
        by_cases hlt : p < j
        · obtain ⟨x, hx⟩ : ∃ x, Ls[p]? = some x := ⟨_, List.getElem?_eq_getElem (by have := hm.out; omega)⟩
          obtain ⟨b, o, c', e, hcc⟩ := (hrow.kept k (by simp)).at p [x.1] (by rw [List.getElem?_map, hx]; rfl)
          rw [List.length_map, ← hm.out] at e
          injection e with e _ e2
          subst e e2
          have hcell := hcc 0 x.1 rfl
          rw [Nat.mul_one, Nat.add_zero] at hcell
          have hxr := (hL.out x (List.mem_of_getElem? hx)).1
          have hl1 : (cats (Ls.take p)).length + x.2.length ≤ 900000 := by
            rw [lens_cats, ← lens_take_succ hx]
            exact Nat.le_trans (lens_take_le _ _) hb.out
          obtain ⟨ad, c4, w4, hrun, ho4, k4, hN4⟩ := run_appendP rt112 wr 112 u6 (cats (Ls.take p)) ho x.1 x.2 (hxr.kept k (by simp)) (by omega)
          rw [← cats_take_succ hx] at ho4
          have Hall := Hid.mk (And.intro ho4 (And.intro (fun g hg => by
            rcases hN4 g hg with h | h
            · exact hf g h
            · exact Nat.le_trans k.size h : Fresh w (.slice ad ((cats (Ls.take p)).length + x.2.length) c4)) (k.trans k4 (fun y hy => .inr (hf y (by simpa using hy))) : Kept [] w w4)))
          generalize (cats (Ls.take p)).length + x.2.length = tl at *
          obtain ⟨ax, cx, hfx, -⟩ := hxr.form
          rw [hfx] at hcell hrun
          clear ho4 k4 hN4 ho hf k hx hcc hxr hrow hfx
          generalize x.2.length = xl at *
          go_wp2_with (at_builtin; refine wpList_append_run 112 _ _ rfl rfl _ _ rfl rfl _ _ hrun ?_)
          go_roundw
          case rel => exact ⟨p + 1, by go_num, by omega, Hall.out⟩
          case measure => simp [intOf]; omega
        · obtain rfl : p = j := by omega
          rw [List.take_of_length_le (by have := hm.out; omega)] at ho
          have Hall := Hid.mk (And.intro ho (And.intro hf k))
          clear ho hf k
          go_wp2
          go_ret
          exact ⟨_, rfl, Hall.out⟩
end
end Go.Proofs.YtgpbhlfdlkemjaaGreat
/-
  Changes in memory; before.
-/
namespace Go.Proofs.YtgpbhlfdlkemjaaGreat
open Go.RowKit
set_option linter.unusedVariables false

/-- A change's item, as a pointer. -/
def ptr (o : Option Itm) : Value := match o with
  | none => .pointer none
  | some i => Pp i.ad
/-- Changes as rows. -/
def CC (cs : List Chg) : List (List Value) := cs.map fun c => [Sv c.1, ptr c.2]
theorem CC_length (cs : List Chg) : (CC cs).length = cs.length := by simp [CC]
theorem CC_append (a b : List Chg) : CC (a ++ b) = CC a ++ CC b := by simp [CC]
theorem ptr_one (o : Option Itm) : (ptr o).oneCell' = true := by cases o <;> rfl
theorem CC_wide (cs : List Chg) : Wide 2 (CC cs) := fun r hr => by
  obtain ⟨c, _, rfl⟩ := List.mem_map.1 hr
  exact ⟨rfl, fun u hu => by simp at hu; rcases hu with rfl | rfl; rfl; exact ptr_one _⟩
/-- The slice v reads as the changes cs. -/
def HoldsC (w : World) (v : Value) (cs : List Chg) : Prop := ReadsR 2 w v (CC cs)
theorem HoldsC.kept {S : List Nat} {w w' : World} {v : Value} {cs : List Chg} (h : HoldsC w v cs) (k : Kept S w w') (hn : ∀ g, v.ownBlock = some g → g ∉ S) : HoldsC w' v cs := ReadsR.kept h k hn
theorem HoldsC.form {w : World} {v : Value} {cs : List Chg} (h : HoldsC w v cs) : ∃ a c, v = .slice a cs.length c ∧ cs.length ≤ c ∧ c ≤ 9223372036854775807 := by
  have := ReadsR.form h
  rwa [CC_length] at this
theorem HoldsC.at {w : World} {a : Option Addr} {n c : Nat} {cs : List Chg} (hn : n = cs.length) (h : HoldsC w (.slice a n c) cs) {j : Nat} {x : Chg} (hx : cs[j]? = some x) : ∃ b o, a = some ⟨b, o, none⟩ ∧ w.cell? ⟨b, o + j * 2, none⟩ = some (Sv x.1) ∧ w.cell? ⟨b, o + j * 2 + 1, none⟩ = some (ptr x.2) := by
  obtain ⟨b, o, c', e, hc⟩ := ReadsR.at h j [Sv x.1, ptr x.2] (by simp [CC, hx])
  injection e with e _ _
  have h0 := hc 0 _ rfl
  have h1 := hc 1 _ rfl
  rw [Nat.add_zero] at h0
  exact ⟨b, o, e, h0, h1⟩
theorem HoldsC.cut {w : World} {a : Option Addr} {n c i j m : Nat} {l : List Chg} (hn : n = l.length) (h : HoldsC w (.slice a n c) l) (hij : i ≤ j) (hj : j ≤ n) (hjm : j ≤ m) (hm : m ≤ c) : HoldsC w (.slice (cutA a m i 2) (j - i) (m - i)) ((l.take j).drop i) := by
  have := ReadsR.cut (by rw [CC_length]; exact hn) h hij hj hjm hm
  unfold HoldsC CC
  rw [List.map_drop, List.map_take]
  exact this
theorem rt86 : RowT 86 143 2 24 (.agg #[.string ⟨#[]⟩, .pointer none]) := ⟨Tryz.underlying86, by kernel_rfl, rfl, by omega, by omega⟩
/-- What a search in changes answers. -/
def SearchedC (fs : List (List UInt8)) (key : List UInt8) (w : World) (e : Ending) (w' : World) : Prop := ∃ (at_ : Nat) (b : Bool), e = .returned (.tuple #[.int .i64 (at_ : Int), .bool b]) ∧ (b = true ↔ fs[at_]? = some key) ∧ PlaceOf fs key at_ ∧ Kept [] w w'
section
variable {w : World}
set_option maxRecDepth 100000 in
set_option maxHeartbeats 1000000 in
theorem searchC (a : Option Addr) (n c : Nat) (l : List Chg) (hn : Hid (n = l.length)) (hr : HoldsC w (.slice a n c) l) (hc : n ≤ 1000000) (key : List UInt8) (fs : List (List UInt8)) (hf : Hid (fs = l.map (·.1))) (hup : fs.Pairwise (· < ·))
    (hcmp : Hid (∀ (c : List UInt8) (p : Value) (W : World), Calls Tryz.prog 168 #[.agg #[Sv c, p], Sv key] W fun e w' => e = .returned (.int .i64 (Lib.compareBytes c key)) ∧ Kept [] W w')) :
    Calls Tryz.prog 167 #[.slice a n c, Sv key, .func (.func 168) #[] #[]] w fun e w' => SearchedC fs key w e w' := by
  have eg : ∀ args w, (callFunc 168 args).run Tryz.prog w = .ok (.enter 168 args) w := enters_of Tryz.func168 (by kernel_rfl) rfl
  have HU := Hid.mk hup
  clear hup
  go_enter Tryz.func167, Tryz.ntmps167
  go_wp2_with fail
  go_loopw [9, 10] (fun vi vj wr => ∃ i j : Nat, Kept [] w wr ∧ vi = .int .i64 (i : Int) ∧ vj = .int .i64 (j : Int) ∧ i ≤ j ∧ j ≤ n ∧ Hid ((∀ (p : Nat) (x : List UInt8), fs[p]? = some x → p < i → x < key) ∧ ∀ (p : Nat) (x : List UInt8), fs[p]? = some x → j ≤ p → ¬ x < key)) (fun vi vj _ => (intOf vj - intOf vi).toNat)
  case atStart => exact ⟨0, n, Kept.refl [] w, rfl, rfl, by omega, by omega, Hid.mk ⟨by intros; omega, fun p x hp hj => by have := (List.getElem?_eq_some_iff.1 hp).1; rw [hf.out, List.length_map, ← hn.out] at this; omega⟩⟩
  case round =>
    obtain ⟨i, j, k, rfl, rfl, hij, hjn, H1⟩ := hrel
    have hrr := hr.kept k (by simp)
    have hfl : fs.length = n := by rw [hf.out, List.length_map, hn.out]
    have Hfl := Hid.mk hfl
    clear hfl
    by_cases hlt : i < j
    · have hh := half_range i j hlt
      obtain ⟨x, hx⟩ : ∃ x, l[(i + j) / 2]? = some x := ⟨_, List.getElem?_eq_getElem (by have := hn.out; omega)⟩
      obtain ⟨kx, hkx⟩ : ∃ kx, fs[(i + j) / 2]? = some kx := ⟨x.1, by rw [hf.out, List.getElem?_map, hx]; rfl⟩
      obtain ⟨b, o, e, hcl0, hcl1⟩ := hrr.at (by rw [← hn.out]) hx
      subst e
      have hkk : kx = x.1 := by rw [hf.out, List.getElem?_map, hx] at hkx; exact (Option.some.inj hkx).symm
      subst hkk
      have hcc := hcmp.out x.1 (ptr x.2) wr
      have hcl := cmp_lt x.1 key
      generalize Lib.compareBytes x.1 key = cv at hcc hcl
      have Hx := Hid.mk hkx
      generalize x.1 = kx at *
      generalize ptr x.2 = xp at *
      clear hx hkx hrr hr
      by_cases hneg : cv < 0
      · have hk : kx < key := hcl.1 hneg
        clear hcl
        go_wp2_with (go_at_fn 168; refine hcc.mono ?_; rintro e w' ⟨rfl, k2⟩)
        go_roundw
        case rel =>
          exact ⟨(i + j) / 2 + 1, j, k.trans k2 (by simp), by rw [show ((i : Int) + (j : Int)) / 2 + 1 = (((i + j) / 2 + 1 : Nat) : Int) by omega], rfl, by omega, hjn, Hid.mk ⟨fun p y hp hlt => by
            rcases Nat.lt_or_ge p ((i + j) / 2) with h | h
            · exact klt_trans (rising_le HU.out hp Hx.out h) hk
            · have : p = (i + j) / 2 := by omega
              subst this
              rw [Hx.out] at hp
              injection hp with hp
              rw [← hp]
              exact hk, H1.out.2⟩⟩
        case measure => simp [intOf]; omega
      · have hk : ¬ kx < key := fun h => hneg (hcl.2 h)
        clear hcl
        go_wp2_with (go_at_fn 168; refine hcc.mono ?_; rintro e w' ⟨rfl, k2⟩)
        go_roundw
        case rel =>
          exact ⟨i, (i + j) / 2, k.trans k2 (by simp), rfl, by rw [show ((i : Int) + (j : Int)) / 2 = (((i + j) / 2 : Nat) : Int) by omega], by omega, by omega, Hid.mk ⟨H1.out.1, fun p y hp hle => by
            rcases Nat.lt_or_ge ((i + j) / 2) p with h | h
            · exact fun hy => hk (klt_trans (rising_le HU.out Hx.out hp h) hy)
            · have : p = (i + j) / 2 := by omega
              subst this
              rw [Hx.out] at hp
              injection hp with hp
              rw [← hp]
              exact hk⟩⟩
        case measure => simp [intOf]; omega
    · obtain rfl : j = i := by omega
      have HP : Hid (PlaceOf fs key j) := Hid.mk ⟨by have := Hfl.out; omega, fun p x hp => ⟨fun h => Nat.lt_of_not_le fun hle => H1.out.2 p x hp hle h, fun h => H1.out.1 p x hp h⟩⟩
      by_cases hjn2 : j < n
      · obtain ⟨x, hx⟩ : ∃ x, l[j]? = some x := ⟨_, List.getElem?_eq_getElem (by have := hn.out; omega)⟩
        obtain ⟨kx, hkx⟩ : ∃ kx, fs[j]? = some kx := ⟨x.1, by rw [hf.out, List.getElem?_map, hx]; rfl⟩
        obtain ⟨b, o, e, hcl0, hcl1⟩ := hrr.at (by rw [← hn.out]) hx
        subst e
        have hkk : kx = x.1 := by rw [hf.out, List.getElem?_map, hx] at hkx; exact (Option.some.inj hkx).symm
        subst hkk
        have hcc := hcmp.out x.1 (ptr x.2) wr
        have hce := cmp_eq x.1 key
        generalize Lib.compareBytes x.1 key = cv at hcc hce
        have hd : Hid (fs[j]? = some key ↔ cv = 0) := Hid.mk (by
          rw [hkx]
          simp only [Option.some.injEq, hce])
        generalize x.1 = kx at *
        generalize ptr x.2 = xp at *
        clear hx hkx hce hrr hr
        by_cases h0 : cv = 0
        · subst h0
          go_wp2_with (go_at_fn 168; refine hcc.mono ?_; rintro e w' ⟨rfl, k2⟩)
          go_ret2
          exact ⟨j, true, rfl, by rw [hd.out]; simp, HP.out, k.trans k2 (by simp)⟩
        · have hb : (cv == 0) = false := by simpa using h0
          go_wp2_with (go_at_fn 168; refine hcc.mono ?_; rintro e w' ⟨rfl, k2⟩)
          go_ret2
          exact ⟨j, false, rfl, by rw [hd.out]; simp [h0], HP.out, k.trans k2 (by simp)⟩
      · have hd : Hid (fs[j]? = none) := Hid.mk (List.getElem?_eq_none (by have := Hfl.out; omega))
        go_wp2
        go_ret2
        exact ⟨j, false, rfl, by rw [hd.out]; simp, HP.out, k⟩
set_option maxRecDepth 100000 in
set_option maxHeartbeats 400000 in
theorem before1_any (c : List UInt8) (p : Value) (key : List UInt8) (W : World) : Calls Tryz.prog 168 #[.agg #[Sv c, p], Sv key] W fun e w' => e = .returned (.int .i64 (Lib.compareBytes c key)) ∧ Kept [] W w' := by
  have hcm := fun W => cmp_any c key W
  generalize Lib.compareBytes c key = r at hcm ⊢
  go_enter Tryz.func168, Tryz.ntmps168
  go_wp2_with fail
  refine (hcm _).mono ?_
  rintro e w' ⟨rfl, rfl⟩
  go_wp2
  go_ret
  exact ⟨rfl, kept_alloc W _⟩
set_option maxRecDepth 100000 in
set_option maxHeartbeats 400000 in
/-- before: how many changes are below the key. -/
theorem before_any (a : Option Addr) (n c : Nat) (cs : List Chg) (hn : Hid (n = cs.length)) (hr : HoldsC w (.slice a n c) cs) (hc : n ≤ 1000000) (key : List UInt8) (hup : ChUp cs) : Calls Tryz.prog 148 #[.slice a n c, Sv key] w fun e w' => e = .returned (.int .i64 (kpl (cs.map (·.1)) key : Int)) ∧ Kept [] w w' := by
  have hp : (cs.map (·.1)).Pairwise (· < ·) := List.pairwise_map.2 hup
  have hs := (searchC a n c cs hn hr hc key (cs.map (·.1)) (Hid.mk rfl) hp (Hid.mk fun c p W => before1_any c p key W)).mono (R' := fun e w' => ∃ b : Bool, e = .returned (.tuple #[.int .i64 (kpl (cs.map (·.1)) key : Int), .bool b]) ∧ Kept [] w w') fun e w' he => by
    obtain ⟨at_, b, rfl, _, h3, k⟩ := he
    have e := h3.uniq (place_kpl key hp)
    subst e
    exact ⟨b, rfl, k⟩
  generalize kpl (cs.map (·.1)) key = A at *
  clear hr hp hup
  go_enter Tryz.func148, Tryz.ntmps148
  go_wp2_with fail
  refine hs.mono ?_
  rintro e w' ⟨b, rfl, k⟩
  go_wp2
  go_ret
  exact ⟨rfl, k⟩
end
end Go.Proofs.YtgpbhlfdlkemjaaGreat
/-
  items: changes laid into a leaf's items.
-/
namespace Go.Proofs.YtgpbhlfdlkemjaaGreat
open Go.RowKit
set_option linter.unusedVariables false

/-- What stands while changes are laid into items: M is made, d items and j changes are done. -/
structure ItInv (ρ : Rho) (is : List Itm) (cs : List Chg) (M : List Itm) (d j : Nat) (dl : List Nat) : Prop where
  eq : M ++ mrg (is.drop d) (cs.drop j) = mrg is cs
  le : d ≤ is.length
  low : ∀ i ∈ is.take d, ∀ c ∈ cs.drop j, i.key < c.1
  names : ((is.take d).flatMap fun i => pn ρ i.ad).Perm ((M.flatMap fun i => pn ρ i.ad) ++ dl)
theorem ItInv.start {ρ : Rho} {is : List Itm} {cs : List Chg} : ItInv ρ is cs [] 0 0 [] := ⟨by simp, by omega, by simp, by simp⟩
section
variable {ρ : Rho} {is : List Itm} {cs : List Chg} {M : List Itm} {d j : Nat} {dl : List Nat} {c : Chg}
/-- Where a change's key is. -/
theorem ItInv.place (h : ItInv ρ is cs M d j dl) (hu : Up is) (hc : cs[j]? = some c) : d ≤ kpl (is.map Itm.key) c.1 ∧ kpl (is.map Itm.key) c.1 ≤ is.length := by
  have hp := place_kpl c.1 (List.pairwise_map.2 hu : (is.map Itm.key).Pairwise (· < ·))
  refine ⟨?_, by have := hp.1; rw [List.length_map] at this; exact this⟩
  rcases Nat.lt_or_ge (kpl (is.map Itm.key) c.1) d with hl | hl
  · have hlt : kpl (is.map Itm.key) c.1 < is.length := Nat.lt_of_lt_of_le hl h.le
    obtain ⟨x, hx⟩ : ∃ x, is[kpl (is.map Itm.key) c.1]? = some x := ⟨_, List.getElem?_eq_getElem hlt⟩
    have h1 := h.low x (by refine List.mem_of_getElem? (i := kpl (is.map Itm.key) c.1) ?_; rw [List.getElem?_take, if_pos hl]; exact hx) c (by refine List.mem_of_getElem? (i := 0) ?_; rw [List.getElem?_drop]; exact hc)
    have h2 := (hp.2 _ _ (by rw [List.getElem?_map, hx]; rfl)).1 h1
    omega
  · exact hl
theorem filter_lt_take (hu : Up is) (key : List UInt8) : is.filter (fun i => decide (i.key < key)) = is.take (kpl (is.map Itm.key) key) := by
  have hp := place_kpl key (List.pairwise_map.2 hu : (is.map Itm.key).Pairwise (· < ·))
  generalize kpl (is.map Itm.key) key = p at hp
  have h1 : (is.take p).filter (fun i => decide (i.key < key)) = is.take p := filter_all fun i hi => by
    obtain ⟨q, hq⟩ := List.getElem?_of_mem hi
    rw [List.getElem?_take] at hq
    split at hq
    · simpa using (hp.2 q i.key (by rw [List.getElem?_map, hq]; rfl)).2 (by assumption)
    · cases hq
  have h2 : (is.drop p).filter (fun i => decide (i.key < key)) = [] := filter_none fun i hi => by
    obtain ⟨q, hq⟩ := List.getElem?_of_mem hi
    rw [List.getElem?_drop] at hq
    have := hp.2 (p + q) i.key (by rw [List.getElem?_map, hq]; rfl)
    simp only [decide_eq_false_iff_not]
    intro hk
    have := this.1 hk
    omega
  calc is.filter (fun i => decide (i.key < key)) = (is.take p ++ is.drop p).filter (fun i => decide (i.key < key)) := by rw [List.take_append_drop]
    _ = is.take p := by rw [List.filter_append, h1, h2, List.append_nil]
/-- One change more: q is 1, if the key was there. -/
theorem ItInv.step (h : ItInv ρ is cs M d j dl) (hu : Up is) (hcu : ChUp cs) (hc : cs[j]? = some c) (q : Nat) (hq : q = if (is.map Itm.key)[kpl (is.map Itm.key) c.1]? = some c.1 then 1 else 0) (hb : ∀ i, c.2 = some i → pn ρ i.ad = []) :
    ItInv ρ is cs (M ++ (is.take (kpl (is.map Itm.key) c.1)).drop d ++ c.2.toList) (kpl (is.map Itm.key) c.1 + q) (j + 1) (dl ++ (((is.drop (kpl (is.map Itm.key) c.1)).take q).flatMap fun i => pn ρ i.ad)) := by
  have hpl := h.place hu hc
  have hp := place_kpl c.1 (List.pairwise_map.2 hu : (is.map Itm.key).Pairwise (· < ·))
  have hfil := filter_lt_take (is := is) hu c.1
  generalize kpl (is.map Itm.key) c.1 = p at *
  have hdc : cs.drop j = c :: cs.drop (j + 1) := by rw [List.drop_eq_getElem?_toList_append, hc]; rfl
  have hud : Up (is.drop d) := List.Pairwise.sublist (List.drop_sublist _ _) hu
  have hplen : p + q ≤ is.length := by
    split at hq
    · rename_i hk
      have := (List.getElem?_eq_some_iff.1 hk).1
      rw [List.length_map] at this
      omega
    · omega
  -- the items below, at and above the key
  have hlow : (is.drop d).filter (fun i => decide (i.key < c.1)) = (is.take p).drop d := by
    have e1 : is.filter (fun i => decide (i.key < c.1)) = (is.take d).filter (fun i => decide (i.key < c.1)) ++ (is.drop d).filter (fun i => decide (i.key < c.1)) := by rw [← List.filter_append, List.take_append_drop]
    have e2 : (is.take d).filter (fun i => decide (i.key < c.1)) = is.take d := filter_all fun i hi => by simpa using h.low i hi c (by rw [hdc]; simp)
    rw [hfil, e2] at e1
    have e3 : is.take p = is.take d ++ (is.take p).drop d := by
      have : is.take d = (is.take p).take d := by rw [List.take_take, Nat.min_eq_left (by omega)]
      rw [this, List.take_append_drop]
    rw [e3] at e1
    exact (List.append_cancel_left e1).symm
  have hhigh : (is.drop d).filter (fun i => decide (c.1 < i.key)) = is.drop (p + q) := by
    have e1 : is.drop d = (is.take p).drop d ++ ((is.drop p).take q ++ is.drop (p + q)) := by
      have a1 : (is.drop p).take q ++ is.drop (p + q) = is.drop p := by rw [← List.drop_drop, List.take_append_drop]
      rw [a1]
      have a2 : is = is.take p ++ is.drop p := (List.take_append_drop p is).symm
      have a3 : (is.take p ++ is.drop p).drop d = (is.take p).drop d ++ is.drop p := List.drop_append_of_le_length (by rw [List.length_take]; omega)
      rw [← a3, ← a2]
    rw [e1, List.filter_append, List.filter_append]
    have f1 : ((is.take p).drop d).filter (fun i => decide (c.1 < i.key)) = [] := filter_none fun i hi => by
      have : i ∈ (is.drop d).filter (fun i => decide (i.key < c.1)) := by rw [hlow]; exact hi
      have := (List.mem_filter.1 this).2
      simp at this
      simpa using klt_asymm this
    have f2 : ((is.drop p).take q).filter (fun i => decide (c.1 < i.key)) = [] := filter_none fun i hi => by
      split at hq
      · rename_i hk
        subst hq
        obtain ⟨r, hr⟩ := List.getElem?_of_mem hi
        rw [List.getElem?_take] at hr
        split at hr
        · have : r = 0 := by omega
          subst this
          rw [List.getElem?_drop] at hr
          rw [List.getElem?_map] at hk
          rw [Nat.add_zero] at hr
          rw [hr] at hk
          simp at hk
          simp [hk, klt_irrefl]
        · cases hr
      · subst hq; simp at hi
    have f3 : (is.drop (p + q)).filter (fun i => decide (c.1 < i.key)) = is.drop (p + q) := filter_all fun i hi => by
      obtain ⟨r, hr⟩ := List.getElem?_of_mem hi
      rw [List.getElem?_drop] at hr
      have hn : ¬ i.key < c.1 := fun hk => by have := (hp.2 (p + q + r) i.key (by rw [List.getElem?_map, hr]; rfl)).1 hk; omega
      have hne : i.key ≠ c.1 := fun e => by
        split at hq
        · rename_i hk
          subst hq
          have := rising_le (List.pairwise_map.2 hu : (is.map Itm.key).Pairwise (· < ·)) hk (by rw [List.getElem?_map, hr]; rfl : (is.map Itm.key)[p + 1 + r]? = some i.key) (by omega)
          rw [e] at this
          exact klt_irrefl _ this
        · rename_i hk
          subst hq
          have hk2 : (is.map Itm.key)[p + 0 + r]? = some c.1 := by rw [List.getElem?_map, hr, Option.map_some, e]
          cases r with
          | zero => exact hk hk2
          | succ r =>
            obtain ⟨x, hx⟩ : ∃ x, (is.map Itm.key)[p]? = some x := ⟨_, List.getElem?_eq_getElem (by have := (List.getElem?_eq_some_iff.1 hk2).1; omega)⟩
            have h1 := rising_le (List.pairwise_map.2 hu : (is.map Itm.key).Pairwise (· < ·)) hx hk2 (by omega)
            have := (hp.2 _ _ hx).1 h1
            omega
      simpa using klt_total hn hne
    rw [f1, f2, f3]
    rfl
  refine ⟨?_, hplen, ?_, ?_⟩
  · rw [← h.eq, hdc]
    simp only [mrg, hlow, hhigh]
    simp
  · intro i hi x hx
    have hcx : c.1 < x.1 := by
      have := hcu
      have e1 : cs = cs.take j ++ (c :: cs.drop (j + 1)) := by rw [← hdc, List.take_append_drop]
      rw [e1] at this
      exact (List.pairwise_cons.1 (List.pairwise_append.1 this).2.1).1 x hx
    obtain ⟨r, hr⟩ := List.getElem?_of_mem hi
    rw [List.getElem?_take] at hr
    split at hr
    · rename_i hrl
      rcases Nat.lt_or_ge r p with hrp | hrp
      · exact klt_trans ((hp.2 r i.key (by rw [List.getElem?_map, hr]; rfl)).2 hrp) hcx
      · split at hq
        · rename_i hk
          have : r = p := by omega
          subst this
          rw [List.getElem?_map, hr] at hk
          simp at hk
          rw [hk]
          exact hcx
        · omega
    · cases hr
  · have e1 : is.take (p + q) = is.take d ++ ((is.take p).drop d ++ (is.drop p).take q) := by
      have a1 : is.take (p + q) = is.take p ++ (is.drop p).take q := List.take_add
      have a2 : is.take p = is.take d ++ (is.take p).drop d := by
        have : is.take d = (is.take p).take d := by rw [List.take_take, Nat.min_eq_left (by omega)]
        rw [this, List.take_append_drop]
      rw [a1, ← List.append_assoc, ← a2]
    have hc2 : (c.2.toList.flatMap fun i => pn ρ i.ad) = [] := by
      cases e : c.2 with
      | none => rfl
      | some i => simp [hb i e]
    rw [e1, List.flatMap_append, List.flatMap_append, List.flatMap_append, List.flatMap_append, hc2, List.append_nil]
    refine (h.names.append_right _).trans ?_
    generalize (M.flatMap fun i => pn ρ i.ad) = A
    generalize (((is.take p).drop d).flatMap fun i => pn ρ i.ad) = B
    generalize (((is.drop p).take q).flatMap fun i => pn ρ i.ad) = C
    have : (dl ++ (B ++ C)).Perm (B ++ (dl ++ C)) := by
      rw [← List.append_assoc, ← List.append_assoc]
      exact List.perm_append_comm.append_right C
    simpa using this.append_left A
theorem ItInv.done (h : ItInv ρ is cs M d cs.length dl) : M ++ is.drop d = mrg is cs ∧ (is.flatMap fun i => pn ρ i.ad).Perm (((mrg is cs).flatMap fun i => pn ρ i.ad) ++ dl) := by
  have e := h.eq
  rw [List.drop_length] at e
  have e2 : M ++ is.drop d = mrg is cs := e
  refine ⟨e2, ?_⟩
  have e3 : (is.flatMap fun i => pn ρ i.ad) = ((is.take d).flatMap fun i => pn ρ i.ad) ++ ((is.drop d).flatMap fun i => pn ρ i.ad) := by rw [← List.flatMap_append, List.take_append_drop]
  rw [← e2, List.flatMap_append, e3]
  refine (h.names.append_right _).trans ?_
  rw [List.append_assoc, List.append_assoc]
  exact List.perm_append_comm.append_left _
end
end Go.Proofs.YtgpbhlfdlkemjaaGreat
