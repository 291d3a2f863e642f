import Derived.Lib.AppendZeros
import Derived.Test.YtngnenbidpojeaaDoorW14
import Derived.Test.YtngnenbidpojeaaDoorW15
import Derived.Test.YtngnenbidpojeaaDoorW20
import Derived.Test.YtngnenbidpojeaaDoorW21
/-
  A turn, without memory: what an actor becomes, and what is told of it.
-/
namespace Go.Proofs.YtngnenbidpojeaaDoor
set_option maxRecDepth 100000
set_option linter.unusedVariables false
/-- May a letter be sent there. -/
def okSnd (o : Ob) (to : List UInt8) : Bool := isKey to && decide (o.L.length ≠ 32) && (hasK o.K to || decide (o.K.length ≠ 64))
theorem okSnd_iff (o : Ob) (to : List UInt8) : okSnd o to = true ↔ isKey to = true ∧ o.L.length ≠ 32 ∧ (hasK o.K to = true ∨ o.K.length ≠ 64) := by
  simp [okSnd, and_assoc]
/-- All of them are sent, or one is refused. -/
def sendL : Ob → List Sn → Option Ob
  | o, [] => some o
  | o, s :: r => if okSnd o s.to = true then sendL (sendO o s.to s.kind [s.arg]) r else none
theorem sendL_snoc (s : Sn) : ∀ (l : List Sn) (o : Ob), sendL o (l ++ [s]) = (sendL o l).bind fun q => if okSnd q s.to = true then some (sendO q s.to s.kind [s.arg]) else none
  | [], o => by simp [sendL]
  | x :: l, o => by
    rw [List.cons_append, sendL, sendL]
    split
    · exact sendL_snoc s l _
    · rfl
theorem sendL_none (B : List Sn) : ∀ (l : List Sn) (o : Ob), sendL o l = none → sendL o (l ++ B) = none
  | [], o, h => by simp [sendL] at h
  | x :: l, o, h => by
    rw [List.cons_append, sendL]
    rw [sendL] at h
    split
    · rename_i hc
      rw [if_pos hc] at h
      exact sendL_none B l _ h
    · rfl
theorem snd_of_ok {o : Ob} {to : List UInt8} (h : okSnd o to = true) (kind arg : Int) : sndO o to kind [arg] = sendO o to kind [arg] := by
  obtain ⟨h1, h2, h3⟩ := (okSnd_iff o to).1 h
  unfold sndO
  rw [if_pos ⟨h1, by simp, h2, h3⟩]
theorem sendL_good : ∀ (l : List Sn) (o q : Ob) (B : Nat), GoodO o → SerB o B → (∀ s ∈ l, I64 s.kind ∧ I64 s.arg) → B + l.length < 4611686018427387904 → sendL o l = some q → GoodO q ∧ SerB q (B + l.length)
  | [], o, q, B, g, hB, hs, h6, h => by simp [sendL] at h; subst h; exact ⟨g, hB⟩
  | x :: l, o, q, B, g, hB, hs, h6, h => by
    rw [sendL] at h
    split at h
    · rename_i hc
      have hx := hs x (by simp)
      rw [List.length_cons] at h6
      have g1 := g.snd hB (by omega) (to := x.to) hx.1 (args := [x.arg]) (by simp; exact hx.2)
      have b1 := hB.snd x.to x.kind [x.arg]
      rw [snd_of_ok hc] at g1 b1
      have := sendL_good l _ q (B + 1) g1 b1 (fun s h => hs s (by simp [h])) (by omega) h
      refine ⟨this.1, ?_⟩
      have e : B + (x :: l).length = B + 1 + l.length := by simp; omega
      rw [e]
      exact this.2
    · cases h
/-- What is told of a turn. -/
structure Oc where
  done : Bool
  poi : Bool
  failed : Int
  steps : Nat
  tm : List Tm
def ocN : Oc := ⟨false, false, 0, 0, []⟩
/-- What an actor is behind a run of its first letter, what is told, and the error. -/
def takeR (a : Ac) (x : Lt) (t : List Lt) (R : Rsl) (e : Int) : Ac × Oc × Int :=
  if e = 0 then
    match sendL a.out R.sent with
    | none => (a, ocN, 8)
    | some o => (⟨addR a.j (R.ev.map ofE), t, o, 0, a.poi⟩, ⟨true, false, 0, R.k, R.tm⟩, 0)
  else if a.tries + 1 < 3 then (⟨a.j, a.inb, a.out, a.tries + 1, a.poi⟩, ⟨false, false, e, R.k, []⟩, 0)
  else if a.poi.length = 8 then (a, ocN, 8)
  else (⟨a.j, t, a.out, 0, a.poi ++ [x]⟩, ⟨false, true, e, R.k, []⟩, 0)
/-- A turn. -/
def takeA (p : Pg) (a : Ac) (now : Int) : Ac × Oc × Int :=
  if soundA a.tries a.inb.length a.poi = true ∧ formedP p = true ∧ 0 ≤ now then
    match a.inb with
    | [] => (a, ocN, 5)
    | x :: t => takeR a x t (resI p (stJ a.j) x now).1 (resI p (stJ a.j) x now).2
  else (a, ocN, 1)
/-- What comes of any run. -/
structure FitR (R : Rsl) : Prop where
  ev : R.ev.length ≤ 900
  tm : R.tm.length ≤ 900
  sent : R.sent.length ≤ 4
  k : R.k ≤ 500
  evs : ∀ e ∈ R.ev, e.r ≤ 7 ∧ I64 e.v
  snd : ∀ s ∈ R.sent, s.to.length ≤ 40 ∧ I64 s.kind ∧ I64 s.arg
theorem fit_none (k : Nat) (hk : k ≤ 500) : FitR (Rsl.none k) := ⟨by simp [Rsl.none], by simp [Rsl.none], by simp [Rsl.none], hk, by simp [Rsl.none], by simp [Rsl.none]⟩
theorem ofE_64 {l : List Ev} (h : ∀ e ∈ l, e.r ≤ 7 ∧ I64 e.v) : ∀ e ∈ l.map ofE, E64 e := fun e he => by
  obtain ⟨y, hy, rfl⟩ := List.mem_map.1 he
  have := h y hy
  exact ⟨by show I64 (y.r : Int); unfold I64; omega, this.2⟩
/-- How far an actor has come: its serials, its version. -/
structure Lim (a : Ac) (B V : Nat) : Prop where
  ser : SerB a.out B
  ver : a.j.ver ≤ V
end Go.Proofs.YtngnenbidpojeaaDoor
/-
  slices.Concat, of letters.
-/
namespace Go.Proofs.YtngnenbidpojeaaDoor
set_option maxRecDepth 100000
open Go.RowKit
set_option linter.unusedVariables false
/-- Slices that read as lists of letters. -/
def Lsts (w : World) (Ls : List (Value × List Lq)) : Prop := ∀ x ∈ Ls, RowQ w x.1 x.2 ∧ x.1.oneCell' = true
def lens (Ls : List (Value × List Lq)) : Nat := (Ls.map fun x => x.2.length).sum
def cats (Ls : List (Value × List Lq)) : List Lq := Ls.flatMap fun x => x.2
theorem lens_cats (Ls : List (Value × List Lq)) : (cats Ls).length = lens Ls := by simp [cats, lens, List.length_flatMap]
theorem lens_take_succ {Ls : List (Value × List Lq)} {j : Nat} {x : Value × List Lq} (hx : Ls[j]? = some x) : lens (Ls.take (j + 1)) = lens (Ls.take j) + x.2.length := by
  unfold lens
  rw [List.take_add_one, hx]
  simp
theorem cats_take_succ {Ls : List (Value × List Lq)} {j : Nat} {x : Value × List Lq} (hx : Ls[j]? = some x) : cats (Ls.take (j + 1)) = cats (Ls.take j) ++ x.2 := by
  unfold cats
  rw [List.take_add_one, hx]
  simp
theorem lens_take_le (Ls : List (Value × List Lq)) (j : Nat) : lens (Ls.take j) ≤ lens Ls := by
  have : lens Ls = lens (Ls.take j) + lens (Ls.drop j) := by
    unfold lens
    rw [← List.sum_append, ← List.map_append, List.take_append_drop]
  omega
theorem CQ_app (A B : List Lq) : CQ (A ++ B) = CQ A ++ CQ B := by simp [CQ]
set_option maxHeartbeats 1000000 in
theorem grow128 (w : World) (n : Nat) (hn : n ≤ 1000000) : Calls Tryd.prog 64 #[.slice none 0 0, .int .i64 (n : Int)] w fun e w' => ∃ v, e = .returned v ∧ OwnsR 25 4 w' v (CQ []) ∧ Fresh w v ∧ Kept [] w w' := by
  by_cases h0 : n = 0
  · subst h0
    go_enter Tryd.func64, Tryd.ntmps64
    go_wp2
    go_ret
    exact ⟨_, rfl, OwnsR.nil _ _ _, fun g hg => by simp [Value.ownBlock] at hg, Kept.refl [] w⟩
  · obtain ⟨i0, hi, hz0, hz1, hz2⟩ := info_parts rt28.info
    have hrun := Lib.run_append_nil_zeros (P := Tryd.prog) w 26 3 26 25 i0 (.agg #[.string ⟨#[]⟩, .int .u64 0, .int .i64 0, .slice none 0 0]) .i64 .i64 rt28.under Tryd.underlying3 hi hz0 n (by omega) (by rw [hz1]; omega) (by omega) (by rw [hz2]; omega)
    have hge := grownCap_ge w n 0 25
    have hle := grownCap_le_maxLen w n 0 25 (by unfold maxLen; omega)
    generalize grownCap w n 0 25 = cp at hrun hge hle
    have hpos : 0 < n := by omega
    obtain ⟨w1, hw1⟩ : ∃ w1, w1 = w.drew.alloc (.cells (Builtin.zeroCells (Value.agg #[.string ⟨#[]⟩, .int .u64 0, .int .i64 0, .slice none 0 0]).cells n ++ Builtin.zeroCells (Value.agg #[.string ⟨#[]⟩, .int .u64 0, .int .i64 0, .slice none 0 0]).cells (cp - n)) 25) := ⟨_, rfl⟩
    have ho : OwnsR 25 4 w1 (.slice (some ⟨w.heap.size, 0, none⟩) 0 cp) [] := by
      rw [hw1]
      refine World.ownsRow_made (base := 0) (e := 25) (size := 4) w.drew _ cp (Nat.zero_le _) hle ?_
      simp [Builtin.zeroCells, Value.cells]
      omega
    have kk : Kept [] w w1 := by rw [hw1]; exact (Kept.refl [] w).drew.alloc _
    rw [← hw1] at hrun
    have Hf := Hid.mk (And.intro ho (And.intro (fun g hg => by simp [Value.ownBlock] at hg; omega : Fresh w (.slice (some ⟨w.heap.size, 0, none⟩) 0 cp)) kk))
    unfold maxLen at hle
    clear hw1 ho kk h0
    have hs1 := fun W => run_cutH rt28 W none 0 0 0 (Nat.le_refl 0)
    have hs2 := fun W => run_cutH rt28 W (some ⟨w.heap.size, 0, none⟩) n cp 0 (Nat.zero_le _)
    have e1 : cutA none 0 0 4 = none := rfl
    have e2 : cutA (some ⟨w.heap.size, 0, none⟩) cp 0 4 = some ⟨w.heap.size, 0, none⟩ := by unfold cutA; split <;> rfl
    rw [e1] at hs1
    rw [e2] at hs2
    clear e1 e2
    go_enter Tryd.func64, Tryd.ntmps64
    go_wp2_with (at_builtin; refine Lib.wpList_append_run _ rfl _ _ 26 3 rfl _ _ rfl rfl _ _ hrun ?_)
    go_ret
    exact ⟨_, rfl, Hf.out⟩
section
variable {w : World}
set_option maxHeartbeats 2000000 in
theorem concat96 (a : Option Addr) (m c : Nat) (Ls : List (Value × List Lq)) (hm : Hid (m = Ls.length)) (hrow : ReadsR 1 w (.slice a m c) (Ls.map fun x => [x.1])) (hL : Hid (Lsts w Ls)) (hml : m ≤ 100000) (hb : Hid (lens Ls ≤ 900000)) :
    Calls Tryd.prog 41 #[.slice a m c] w fun e w' => ∃ v, e = .returned v ∧ OwnsR 25 4 w' v (CQ (cats Ls)) ∧ Fresh w v ∧ Kept [] w w' := by
  obtain ⟨S, hS⟩ : ∃ S : Nat → Nat, Hid (∀ j, S j = lens (Ls.take j)) := ⟨fun j => lens (Ls.take j), Hid.mk fun _ => rfl⟩
  have HS0 : Hid (S 0 = 0) := Hid.mk (by rw [hS.out]; rfl)
  have HSb : Hid (∀ j, S j ≤ 900000) := Hid.mk fun j => by rw [hS.out]; exact Nat.le_trans (lens_take_le _ _) hb.out
  have HSs : Hid (∀ j x, Ls[j]? = some x → S (j + 1) = S j + x.2.length) := Hid.mk fun j x hx => by rw [hS.out, hS.out]; exact lens_take_succ hx
  go_enter Tryd.func41, Tryd.ntmps41
  go_wp2_with fail
  go_loopw [3, 11] (fun v i wr => ∃ j : Nat, i = .int .i64 (j : Int) ∧ j ≤ m ∧ v = .int .i64 (S j : Int) ∧ w = wr) (fun _ i _ => m - (intOf i).toNat)
  case atStart => exact ⟨0, rfl, by omega, by rw [HS0.out]; rfl, rfl⟩
  case round =>
    obtain ⟨j, rfl, hj, rfl, rfl⟩ := hrel
    have hbj := HSb.out j
    by_cases hlt : j < m
    · obtain ⟨x, hx⟩ : ∃ x, Ls[j]? = some x := ⟨_, List.getElem?_eq_getElem (by have := hm.out; omega)⟩
      obtain ⟨b, o, c', e, hcc⟩ := hrow.at j [x.1] (by rw [List.getElem?_map, hx]; rfl)
      rw [List.length_map, ← hm.out] at e
      injection e with e _ e2
      subst e e2
      have hcell := hcc 0 x.1 rfl
      rw [Nat.mul_one, Nat.add_zero] at hcell
      obtain ⟨ax, cx, hfx, -⟩ := (hL.out x (List.mem_of_getElem? hx)).1.form
      rw [hfx] at hcell
      have HN := Hid.mk (HSs.out j x hx)
      have hbn := HSb.out (j + 1)
      generalize x.2.length = xl at HN hcell
      have hxb : S j + xl ≤ 900000 := by rw [← HN.out]; exact hbn
      clear hx hcc hfx hrow hbn
      go_wp2
      go_roundw
      case rel => exact ⟨j + 1, by go_num, by omega, by rw [HN.out]; go_num, trivial⟩
      case measure => simp [intOf]; omega
    · obtain rfl : j = m := by omega
      have hg := grow128 w (S j) (by omega)
      generalize S j = tot at hg hbj
      clear HS0 HSb HSs hlt
      go_wp2_with fail
      refine hg.mono ?_
      rintro e w1 ⟨v1, rfl, ho1, hf1, k1⟩
      clear hg
      go_wp2_with fail
      go_loopw [6, 27] (fun u i wr => ∃ p : Nat, i = .int .i64 (p : Int) ∧ p ≤ j ∧ OwnsR 25 4 wr u (CQ (cats (Ls.take p))) ∧ Fresh w u ∧ Kept [] w wr) (fun _ i _ => j - (intOf i).toNat)
      case atStart => exact ⟨0, rfl, by omega, ho1, hf1, k1⟩
      case round =>
        clear ho1 hf1 k1
        obtain ⟨p, rfl, hp, ho, hf, k⟩ := hrel
        by_cases hlt : p < j
        · obtain ⟨x, hx⟩ : ∃ x, Ls[p]? = some x := ⟨_, List.getElem?_eq_getElem (by have := hm.out; omega)⟩
          obtain ⟨b, o, c', e, hcc⟩ := (hrow.kept k (by simp)).at p [x.1] (by rw [List.getElem?_map, hx]; rfl)
          rw [List.length_map, ← hm.out] at e
          injection e with e _ e2
          subst e e2
          have hcell := hcc 0 x.1 rfl
          rw [Nat.mul_one, Nat.add_zero] at hcell
          have hxr := (hL.out x (List.mem_of_getElem? hx)).1
          have hl1 : (cats (Ls.take p)).length + x.2.length ≤ 900000 := by
            rw [lens_cats, ← lens_take_succ hx]
            exact Nat.le_trans (lens_take_le _ _) hb.out
          obtain ⟨ad, c4, w4, hrun, ho4, k4, hN4⟩ := run_appendR rt28 wr 26 u6 (CQ (cats (Ls.take p))) ho x.1 (CQ x.2) (CQ_wide _) (hxr.kept k (by simp)) (by rw [CQ_length, CQ_length]; omega)
          rw [← CQ_app, ← cats_take_succ hx] at ho4
          rw [CQ_length, CQ_length] at hrun ho4 hN4
          have Hall := Hid.mk (And.intro ho4 (And.intro (fun g hg => by
            rcases hN4 g hg with h | h
            · exact hf g h
            · exact Nat.le_trans k.size h : Fresh w (.slice ad ((cats (Ls.take p)).length + x.2.length) c4)) (k.grown k4 (fun y hy => .inr (hf y hy)) : Kept [] w w4)))
          generalize (cats (Ls.take p)).length + x.2.length = tl at *
          obtain ⟨ax, cx, hfx, -⟩ := hxr.form
          rw [hfx] at hcell hrun
          clear ho4 k4 hN4 ho hf k hx hcc hxr hrow hfx
          generalize x.2.length = xl at *
          go_wp2_with (at_builtin; refine wpList_append_run 26 26 _ _ rfl rfl _ _ rfl rfl _ _ hrun ?_)
          go_roundw
          case rel => exact ⟨p + 1, by go_num, by omega, Hall.out⟩
          case measure => simp [intOf]; omega
        · obtain rfl : p = j := by omega
          rw [List.take_of_length_le (by have := hm.out; omega)] at ho
          have Hall := Hid.mk (And.intro ho (And.intro hf k))
          clear ho hf k
          go_wp2
          go_ret
          exact ⟨_, rfl, Hall.out⟩
end
end Go.Proofs.YtngnenbidpojeaaDoor
