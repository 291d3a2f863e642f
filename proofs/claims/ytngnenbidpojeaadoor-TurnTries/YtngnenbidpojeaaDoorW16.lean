import Derived.Test.YtngnenbidpojeaaDoorW15
/-
  Len, First and Push of an inbox.
-/
namespace Go.Proofs.YtngnenbidpojeaaDoor
open Go.RowKit
set_option linter.unusedVariables false
/-- What Push answers, of an inbox with n letters. -/
def pushE (n : Nat) (x : Lt) : Int := if x.formed = false then 1 else if n = 8 then 7 else 0
/-- What Push leaves. -/
def pushL (l : List Lt) (x : Lt) : List Lt := if x.formed = true ∧ l.length ≠ 8 then l ++ [x] else l
def PushAt (w : World) (p : Nat) (qs : List Lq) (x : Lt) (e : Ending) (w' : World) : Prop :=
  ∃ qs', e = .returned (.int .i64 (pushE qs.length x)) ∧ IsB w' p qs' ∧ qs'.map (·.x) = pushL (qs.map (·.x)) x ∧ Kept [p] w w' ∧ ∀ q ∈ qs', q ∈ qs ∨ Fresh w q.sl
section
variable {w : World} {p : Nat} {qs : List Lq}
theorem push_bad {w' : World} {x : Lt} (h : IsB w' p qs) (hf : x.formed = false) (k : Kept [] w w') : PushAt w p qs x (.returned (.int .i64 1)) w' :=
  ⟨qs, by unfold pushE; rw [if_pos hf], h, by unfold pushL; rw [if_neg (by simp [hf])], k.mono (by simp), fun q hq => .inl hq⟩
theorem push_full {w' : World} {x : Lt} (h : IsB w' p qs) (hf : x.formed = true) (hn : qs.length = 8) (k : Kept [] w w') : PushAt w p qs x (.returned (.int .i64 7)) w' :=
  ⟨qs, by unfold pushE; rw [if_neg (by simp [hf]), if_pos hn], h, by unfold pushL; rw [if_neg (by simp [hn])], k.mono (by simp), fun q hq => .inl hq⟩
theorem push_yes {w' : World} {x : Lt} {a : Option Addr} {c : Nat} (hf : x.formed = true) (hn : qs.length ≠ 8) (h : IsB w' p (qs ++ [⟨x, a, c⟩])) (k : Kept [p] w w') (hfr : Fresh w (.slice a x.args.length c)) : PushAt w p qs x (.returned (.int .i64 0)) w' :=
  ⟨_, by unfold pushE; rw [if_neg (by simp [hf]), if_neg hn], h, by unfold pushL; rw [if_pos ⟨hf, by simpa using hn⟩]; simp, k, fun q hq => by
    rcases List.mem_append.1 hq with h | h
    · exact .inl h
    · simp at h; subst h; exact .inr hfr⟩
set_option maxRecDepth 100000 in
set_option maxHeartbeats 1000000 in
theorem len21 (hB : IsB w p qs) : Calls Tryd.prog 8 #[.pointer (some ⟨p, 0, none⟩)] w fun e w' => e = .returned (.int .i64 (qs.length : Int)) ∧ w = w' := by
  have hc := hB.count
  clear hB
  go_enter Tryd.func8, Tryd.ntmps8
  go_wp2_with fail
  go_ret
  exact ⟨rfl, rfl⟩
set_option maxRecDepth 100000 in
set_option maxHeartbeats 1000000 in
theorem new10 : Calls Tryd.prog 17 #[] w fun e w' => e = .returned (.pointer (some ⟨w.heap.size, 0, none⟩)) ∧ IsB w' w.heap.size [] ∧ Kept [] w w' ∧ w'.heap.size = w.heap.size + 1 := by
  go_enter Tryd.func17, Tryd.ntmps17
  go_wp2_with fail
  go_ret
  exact ⟨rfl, IsB.new w, (Kept.refl [] w).alloc _, by simp⟩
set_option maxRecDepth 100000 in
set_option maxHeartbeats 1000000 in
theorem push11 (x : Lt) (a : Option Addr) (c : Nat) (hB : IsB w p qs) (hx : ReadsJ w (.slice a x.args.length c) x.args) (hok : x.ok) :
    Calls Tryd.prog 7 #[.pointer (some ⟨p, 0, none⟩), Lv x a c] w fun e w' => PushAt w p qs x e w' := by
  have HB := Hid.mk hB
  have HX := Hid.mk hx
  have H1 : Hid (∀ W, IsB W p qs → x.formed = false → Kept [] w W → PushAt w p qs x (.returned (.int .i64 1)) W) := fun W => push_bad
  have H2 : Hid (∀ W, IsB W p qs → x.formed = true → qs.length = 8 → Kept [] w W → PushAt w p qs x (.returned (.int .i64 7)) W) := fun W => push_full
  have H3 : Hid (∀ W a c, x.formed = true → qs.length ≠ 8 → IsB W p (qs ++ [⟨x, a, c⟩]) → Kept [p] w W → Fresh w (.slice a x.args.length c) → PushAt w p qs x (.returned (.int .i64 0)) W) := fun W a c => push_yes
  generalize PushAt w p qs x = R at H1 H2 H3
  clear hB hx
  go_enter Tryd.func7, Tryd.ntmps7
  go_wp2_with fail
  obtain ⟨W0, e0, k0, hz0, hb0⟩ := box1 w (.cells #[Sv x.fr, .int .u64 (x.ser : Int), .int .i64 x.kind, .slice a x.args.length c] 25)
  rw [e0]
  clear e0
  refine (formed13 x a c).mono ?_
  rintro e w1 ⟨rfl, k1⟩
  have hb1 := k1.keeps hb0 (by simp)
  have k01 := k0.trans k1 (by simp)
  have hB1 := HB.out.kept0 k01
  have hc1 := hB1.count
  cases hfm : x.formed with
  | false =>
    go_wp2_with fail
    exact H1.out _ hB1 hfm k01
  | true =>
    have HF := Hid.mk hfm
    have hfl := formed_le hfm
    clear hfm
    have hlen := hB1.len
    by_cases h8 : qs.length = 8
    · have g8 : ((qs.length : Int) == 8) = true := by simp; omega
      have H8 := Hid.mk h8
      clear h8
      go_wp2_with fail
      exact H2.out _ hB1 HF.out H8.out k01
    · have g8 : ((qs.length : Int) == 8) = false := by simp; omega
      have h8' : qs.length < 8 := by omega
      have H8 := Hid.mk h8
      clear h8 hlen
      have kd := k01.drew
      have hB2 := HB.out.kept0 kd
      have hbd : w1.drew.heap[w.heap.size]? = some (.cells #[Sv x.fr, .int .u64 (x.ser : Int), .int .i64 x.kind, .slice a x.args.length c] 25 (0, 0)) := hb1
      have HS : Hid (∀ W, Kept [] w1.drew W → (W.cell? ⟨p, 32, none⟩ = some (.int .i64 (qs.length : Int)) ∧ W.cell? ⟨w.heap.size, 0, none⟩ = some (Sv x.fr) ∧ W.cell? ⟨w.heap.size, 1, none⟩ = some (.int .u64 (x.ser : Int)) ∧ W.cell? ⟨w.heap.size, 2, none⟩ = some (.int .i64 x.kind) ∧ W.cell? ⟨w.heap.size, 3, none⟩ = some (.slice a x.args.length c))) := fun W k => by
        obtain ⟨c0, c1, c2, c3⟩ := cells4 hbd
        exact ⟨k.cell_eq hB2.count, k.cell_eq c0, k.cell_eq c1, k.cell_eq c2, k.cell_eq c3⟩
      have S0 := HS.out _ (Kept.refl [] _)
      obtain ⟨d0, hd0⟩ := hB2.any (i := qs.length * 4) (by omega)
      obtain ⟨d1, hd1⟩ := hB2.any (i := qs.length * 4 + 1) (by omega)
      obtain ⟨d2, hd2⟩ := hB2.any (i := qs.length * 4 + 2) (by omega)
      obtain ⟨d3, hd3⟩ := hB2.any (i := qs.length * 4 + 3) (by omega)
      have HD : Hid (∀ W, Kept [] w1.drew W → (W.cell? ⟨p, qs.length * 4, none⟩ = some d0 ∧ W.cell? ⟨p, qs.length * 4 + 1, none⟩ = some d1 ∧ W.cell? ⟨p, qs.length * 4 + 2, none⟩ = some d2 ∧ W.cell? ⟨p, qs.length * 4 + 3, none⟩ = some d3) ∧ (W.frozen? ⟨p, qs.length * 4, none⟩ = false ∧ W.frozen? ⟨p, qs.length * 4 + 1, none⟩ = false ∧ W.frozen? ⟨p, qs.length * 4 + 2, none⟩ = false ∧ W.frozen? ⟨p, qs.length * 4 + 3, none⟩ = false)) := fun W k =>
        ⟨⟨k.cell_eq hd0, k.cell_eq hd1, k.cell_eq hd2, k.cell_eq hd3⟩, (hB2.kept0 k).free _, (hB2.kept0 k).free _, (hB2.kept0 k).free _, (hB2.kept0 k).free _⟩
      clear hd0 hd1 hd2 hd3
      have HP : Hid (∀ W a2 c2, Kept [] w1.drew W → ((((((W.setCell ⟨p, qs.length * 4, none⟩ (Sv x.fr)).setCell ⟨p, qs.length * 4 + 1, none⟩ (.int .u64 (x.ser : Int))).setCell ⟨p, qs.length * 4 + 2, none⟩ (.int .i64 x.kind)).setCell ⟨p, qs.length * 4 + 3, none⟩ (.slice a2 x.args.length c2)).cell? ⟨p, 32, none⟩ = some (.int .i64 (qs.length : Int))) ∧ (((((W.setCell ⟨p, qs.length * 4, none⟩ (Sv x.fr)).setCell ⟨p, qs.length * 4 + 1, none⟩ (.int .u64 (x.ser : Int))).setCell ⟨p, qs.length * 4 + 2, none⟩ (.int .i64 x.kind)).setCell ⟨p, qs.length * 4 + 3, none⟩ (.slice a2 x.args.length c2)).cell? ⟨w.heap.size, 0, none⟩ = some (Sv x.fr)) ∧ (((((W.setCell ⟨p, qs.length * 4, none⟩ (Sv x.fr)).setCell ⟨p, qs.length * 4 + 1, none⟩ (.int .u64 (x.ser : Int))).setCell ⟨p, qs.length * 4 + 2, none⟩ (.int .i64 x.kind)).setCell ⟨p, qs.length * 4 + 3, none⟩ (.slice a2 x.args.length c2)).cell? ⟨w.heap.size, 1, none⟩ = some (.int .u64 (x.ser : Int))) ∧ (((((W.setCell ⟨p, qs.length * 4, none⟩ (Sv x.fr)).setCell ⟨p, qs.length * 4 + 1, none⟩ (.int .u64 (x.ser : Int))).setCell ⟨p, qs.length * 4 + 2, none⟩ (.int .i64 x.kind)).setCell ⟨p, qs.length * 4 + 3, none⟩ (.slice a2 x.args.length c2)).cell? ⟨w.heap.size, 2, none⟩ = some (.int .i64 x.kind)) ∧ (((((W.setCell ⟨p, qs.length * 4, none⟩ (Sv x.fr)).setCell ⟨p, qs.length * 4 + 1, none⟩ (.int .u64 (x.ser : Int))).setCell ⟨p, qs.length * 4 + 2, none⟩ (.int .i64 x.kind)).setCell ⟨p, qs.length * 4 + 3, none⟩ (.slice a2 x.args.length c2)).cell? ⟨w.heap.size, 3, none⟩ = some (.slice a x.args.length c)))) := fun W a2 c2 k => by
        have hpl := HB.out.lt
        have := HS.out W k
        rw [put4_cell _ _ _ _ _ _ _ (by intro _; simp; omega), put4_cell _ _ _ _ _ _ _ (by simp; omega), put4_cell _ _ _ _ _ _ _ (by simp; omega), put4_cell _ _ _ _ _ _ _ (by simp; omega), put4_cell _ _ _ _ _ _ _ (by simp; omega)]
        exact this
      have hi0 : (0 : Int) ≤ (qs.length : Int) := by omega
      have hi1 : (qs.length : Int) < 8 := by omega
      have HC := Hid.mk (copy17 x a c (HX.out.kept kd (by simp)) (by omega) (by omega))
      have HKD := Hid.mk kd
      clear hB2 hbd hb1 hb0 k0 k1 hz0 kd
      go_wp2_with fail
      go_region_held3 (fun W => W.cell? ⟨p, 32, none⟩ = some (.int .i64 (qs.length : Int)) ∧ W.cell? ⟨w.heap.size, 0, none⟩ = some (Sv x.fr) ∧ W.cell? ⟨w.heap.size, 1, none⟩ = some (.int .u64 (x.ser : Int)) ∧ W.cell? ⟨w.heap.size, 2, none⟩ = some (.int .i64 x.kind) ∧ W.cell? ⟨w.heap.size, 3, none⟩ = some (.slice a x.args.length c)) (first | exact S0 | exact S1 | exact HP.out _ _ _ k2) (first | (go_at_call 19; refine HC.out.mono ?_; rintro e w2 ⟨a2, c2, rfl, hO2, k2, hf2⟩; have S1 := HS.out _ k2; obtain ⟨⟨j0, j1, j2, j3⟩, f0, f1, f2, f3⟩ := HD.out _ k2))
      clear S0 S1 j0 j1 j2 j3 f0 f1 f2 f3
      have hB3 := HB.out.kept0 (HKD.out.trans k2 (by simp))
      have hcc : ∀ v0 v1 v2 v3, (((((cellsB qs).set (qs.length * 4) v0).set (qs.length * 4 + 1) v1).set (qs.length * 4 + 2) v2).set (qs.length * 4 + 3) v3)[32]? = some (.int .i64 (qs.length : Int)) := fun v0 v1 v2 v3 => by
        rw [List.getElem?_set_ne (by omega), List.getElem?_set_ne (by omega), List.getElem?_set_ne (by omega), List.getElem?_set_ne (by omega)]
        exact cellsB_count hB3.len
      obtain ⟨W3, e3, k3, h3, hz3⟩ := putL (o := qs.length * 4) hB3.box (Sv x.fr) (.int .u64 (x.ser : Int)) (.int .i64 x.kind) (.slice a2 x.args.length c2)
      have hc3 : W3.cell? ⟨p, 32, none⟩ = some (.int .i64 (qs.length : Int)) := by
        unfold World.cell?
        rw [h3]
        simpa using hcc _ _ _ _
      have hf3 : W3.frozen? ⟨p, 32, none⟩ = false := by simp [World.frozen?, h3]
      have h4 := set_list (k := 32) (x := .int .i64 ((qs.length + 1 : Nat) : Int)) h3
      rw [cellsB_push qs ⟨x, a2, c2⟩ h8'] at h4
      have k4 := k3.setCell (p := ⟨p, 32, none⟩) (.inl (by simp)) (.int .i64 ((qs.length + 1 : Nat) : Int))
      have kA : Kept [p] w _ := (HKD.out.trans k2 (by simp)).mono (by simp) |>.trans k4 (by simp)
      have hB4 : IsB (W3.setCell ⟨p, 32, none⟩ (.int .i64 ((qs.length + 1 : Nat) : Int))) p (qs ++ [⟨x, a2, c2⟩]) := by
        refine ⟨h4, by simp; omega, fun q hq => ?_, fun q hq => ?_⟩
        · rcases List.mem_append.1 hq with h | h
          · exact hB3.good q h
          · simp at h; subst h; exact ⟨hok, HF.out⟩
        · have : OwnsJ w2 q.sl q.x.args := by
            rcases List.mem_append.1 hq with h | h
            · exact hB3.args q h
            · simp at h; subst h; exact hO2
          exact this.kept k4 (fun g hg hm => by simp at hm; subst hm; exact ownsJ_ne this hB3.box (by decide) hg)
      have hfr : Fresh w (.slice a2 x.args.length c2) := fun g hg => by have := hf2 g hg; have := HKD.out.size; omega
      have HR := Hid.mk (H3.out _ a2 c2 HF.out H8.out hB4 kA hfr)
      rw [e3]
      clear hB4 kA hfr k4 h4 h3 hcc hB3 e3 k3 hz3
      go_wp2_with fail
      exact HR.out
end
end Go.Proofs.YtngnenbidpojeaaDoor
/-
  First of an inbox.
-/
namespace Go.Proofs.YtngnenbidpojeaaDoor
open Go.RowKit
set_option linter.unusedVariables false
/-- The first one, or none. -/
def hdL (l : List Lt) : Lt := l.headD ⟨[], 0, 0, []⟩
/-- A letter in new memory, and whether there is one. -/
def LetB (w : World) (x : Lt) (b : Bool) (e : Ending) (w' : World) : Prop :=
  ∃ a c, e = .returned (.tuple #[Lv x a c, .bool b]) ∧ OwnsJ w' (.slice a x.args.length c) x.args ∧ Kept [] w w' ∧ Fresh w (.slice a x.args.length c)
section
variable {w : World} {p : Nat} {qs : List Lq}
set_option maxRecDepth 100000 in
set_option maxHeartbeats 1000000 in
theorem first22_none {p' : Option Addr} (hL : ∀ W, Kept [] w W → Calls Tryd.prog 8 #[.pointer p'] W fun e w' => e = .returned (.int .i64 0) ∧ W = w') : Calls Tryd.prog 22 #[.pointer p'] w fun e w' => LetB w ⟨[], 0, 0, []⟩ false e w' := by
  have HL := Hid.mk hL
  clear hL
  go_enter Tryd.func22, Tryd.ntmps22
  go_wp2_with fail
  obtain ⟨W0, e0, k0, hz0, hb0⟩ := box1 w (.cells #[.string { data := #[] }, .int .u64 0, .int .i64 0, .slice none 0 0] 25)
  rw [e0]
  clear e0
  refine (HL.out _ k0).mono ?_
  rintro e w1 ⟨rfl, rfl⟩
  obtain ⟨c0, c1, c2, c3⟩ := cells4 hb0
  obtain ⟨f0, f1, f2, f3⟩ := free4 hb0
  go_wp2_with fail
  obtain ⟨W8, e8, k8, h8, -⟩ := put4 hb0 (.string { data := #[] }) (.int .u64 0) (.int .i64 0) (.slice none 0 0)
  rw [e8]
  refine bodyPost_ret (results_cell_row2 (p := 2) (u := 3) (ty := 25) rfl _ _ w.heap.size 25 _ (0, 0) _ rfl h8 Tryd.underlying25 rfl (by kernel_rfl) _ rfl) rfl ?_
  exact ⟨none, 0, rfl, OwnsJ.nil _, k0.trans k8 (by simp), fresh_nil w 0⟩
set_option maxRecDepth 100000 in
set_option maxHeartbeats 1000000 in
theorem first22_some {q : Lq} {t : List Lq} (hB : IsB w p (q :: t)) : Calls Tryd.prog 22 #[.pointer (some ⟨p, 0, none⟩)] w fun e w' => LetB w q.x true e w' := by
  have HB := Hid.mk hB
  clear hB
  go_enter Tryd.func22, Tryd.ntmps22
  go_wp2_with fail
  obtain ⟨W0, e0, k0, hz0, hb0⟩ := box1 w (.cells #[.string { data := #[] }, .int .u64 0, .int .i64 0, .slice none 0 0] 25)
  rw [e0]
  clear e0
  have hB0 := HB.out.kept0 k0
  refine (len21 hB0).mono ?_
  rintro e w1 ⟨rfl, rfl⟩
  have hn : (((q :: t).length : Int) == 0) = false := by simp; omega
  generalize ((q :: t).length : Int) = N at hn
  obtain ⟨d0, d1, d2, d3⟩ := hB0.at (j := 0) rfl
  rw [Nat.zero_mul] at *
  have hfm := formed_le (hB0.good q (by simp)).2
  have HC := Hid.mk (copy17 q.x q.ad q.cap (hB0.args q (by simp)).reads (by omega) (by omega))
  clear hB0
  go_wp2_with fail
  refine HC.out.mono ?_
  rintro e w2 ⟨a2, c2, rfl, hO2, k2, hf2⟩
  have hb2 := k2.keeps hb0 (by simp)
  obtain ⟨c0, c1, c2', c3⟩ := cells4 hb2
  obtain ⟨f0, f1, f2, f3⟩ := free4 hb2
  clear d0 d1 d2 d3
  go_wp2_with fail
  obtain ⟨W8, e8, k8, h8, -⟩ := put4 hb2 (Sv q.x.fr) (.int .u64 (q.x.ser : Int)) (.int .i64 q.x.kind) (.slice a2 q.x.args.length c2)
  rw [e8]
  refine bodyPost_ret (results_cell_row2 (p := 2) (u := 3) (ty := 25) rfl _ _ w.heap.size 25 _ (0, 0) _ rfl h8 Tryd.underlying25 rfl (by kernel_rfl) _ rfl) rfl ?_
  exact ⟨a2, c2, rfl, hO2.kept k8 (fun g hg hm => by simp at hm; subst hm; exact ownsJ_ne hO2 hb2 (by decide) hg), (k0.trans k2 (by simp)).trans k8 (by simp), fun g hg => by have := hf2 g hg; have := k0.size; omega⟩
theorem first22 (hB : IsB w p qs) : Calls Tryd.prog 22 #[.pointer (some ⟨p, 0, none⟩)] w fun e w' => LetB w (hdL (qs.map (·.x))) (!qs.isEmpty) e w' := by
  cases qs with
  | nil => exact first22_none (fun W k => len21 (hB.kept0 k))
  | cons q t => exact first22_some hB
end
end Go.Proofs.YtngnenbidpojeaaDoor
/-
  Pop of an inbox.
-/
namespace Go.Proofs.YtngnenbidpojeaaDoor
open Go.RowKit
set_option linter.unusedVariables false
section
variable {w : World} {p : Nat} {qs : List Lq}
set_option maxRecDepth 100000 in
set_option maxHeartbeats 1000000 in
theorem pop13_some {q : Lq} {t : List Lq} (hB : IsB w p (q :: t)) : Calls Tryd.prog 40 #[.pointer (some ⟨p, 0, none⟩)] w fun e w' => ∃ a c, e = .returned (.tuple #[Lv q.x a c, .bool true]) ∧ OwnsJ w' (.slice a q.x.args.length c) q.x.args ∧ Kept [p] w w' ∧ Fresh w (.slice a q.x.args.length c) ∧ IsB w' p t := by
  have HB := Hid.mk hB
  clear hB
  go_enter Tryd.func40, Tryd.ntmps40
  go_wp2_with fail
  obtain ⟨W0, e0, k0, hz0, hb0⟩ := box1 w (.cells #[.string { data := #[] }, .int .u64 0, .int .i64 0, .slice none 0 0] 25)
  rw [e0]
  clear e0
  have hB0 := HB.out.kept0 k0
  refine (first22_some hB0).mono ?_
  rintro e w1 ⟨a1, c1, rfl, hO1, k1, hf1⟩
  have hb1 := k1.keeps hb0 (by simp)
  have hB1 := hB0.kept0 k1
  have hc1 := hB1.count
  rw [List.length_cons] at hc1
  generalize hN : t.length + 1 = N at hc1
  have HN := Hid.mk hN
  have hN1 : 1 ≤ N := by omega
  have hN8 : N ≤ 8 := by have := hB1.len; rw [List.length_cons] at this; omega
  clear hN
  have hlt : w.heap.size < w1.heap.size := lt_of_block hb1
  have hlp : p < w1.heap.size := hB1.lt
  go_wp2_with fail
  obtain ⟨W2, e2, k2, hz2, hb2⟩ := box1 w1 (.cells #[Sv q.x.fr, .int .u64 (q.x.ser : Int), .int .i64 q.x.kind, .slice a1 q.x.args.length c1] 25)
  rw [e2]
  have hB2 := (hB1.kept0 k2).kept0 (Kept.refl [] W2).drew
  have S0 : W2.drew.cell? ⟨p, 32, none⟩ = some (.int .i64 (N : Int)) := by have := hB2.count; rw [List.length_cons, HN.out] at this; exact this
  have g1 : (1 : Int) ≤ (N : Int) := by omega
  have g8 : (N : Int) ≤ 8 := by omega
  have g0 : (0 : Int) ≤ (N : Int) := by omega
  have hcl : (CQ t).flatten.length = (N - 1) * 4 := by rw [(CQ_wide t).flat_length, CQ_length]; have := HN.out; omega
  have hsrc : ∀ j v, (CQ t).flatten[j]? = some v → W2.drew.cell? ((⟨p, 4, none⟩ : Addr).add j) = some v := fun j v hv => by
    obtain ⟨m, r, i, hm, hi, rfl⟩ := (CQ_wide t).inv j v hv
    obtain ⟨b, o, c', hbo, hcell⟩ := ReadsR.at hB2.row (m + 1) r (by simpa [CQ] using hm)
    injection hbo with hbo _ _
    injection hbo with hbo
    injection hbo with hb ho _
    subst hb ho
    have := hcell i v hi
    rw [add_at]
    rw [show 0 + (m + 1) * 4 + i = 4 + (m * 4 + i) by omega] at this
    exact this
  have hrun := run_copy_rowK (P := Tryd.prog) W2.drew 26 26 3 25 4 p 0 8 8 ⟨p, 4, none⟩ (N - 1) 7 _ 67 (CQ t).flatten Tryd.underlying26 (by kernel_rfl) hB2.box (by rw [hcl]; congr 1; exact (Nat.min_eq_left (by omega)).symm) hsrc (by rw [hcl]; simp only [List.size_toArray]; rw [cellsB_length hB2.len]; omega) (CQ_wide t).one
  obtain ⟨W3, e3, k3, h3, hz3⟩ : ∃ W, W2.drew.setRow p ((cellsB (q :: t)).toArray.toList.take 0 ++ (CQ t).flatten ++ (cellsB (q :: t)).toArray.toList.drop (0 + (CQ t).flatten.length)).toArray = W ∧ Kept [p] W2.drew W ∧ W.heap[p]? = some (.cells ((CQ t).flatten ++ (cellsB (q :: t)).drop (CQ t).flatten.length).toArray 67 (0, 0)) ∧ W.heap.size = W2.heap.size := by
    refine ⟨_, rfl, (Kept.refl [p] W2.drew).setRow (.inl (by simp)) _, ?_, by simp [World.setRow]⟩
    have := setRow_heap W2.drew p (cellsB (q :: t)).toArray ((cellsB (q :: t)).toArray.toList.take 0 ++ (CQ t).flatten ++ (cellsB (q :: t)).toArray.toList.drop (0 + (CQ t).flatten.length)).toArray 67 (0, 0) hB2.box
    simpa using this
  rw [e3] at hrun
  have hc3 : W3.cell? ⟨p, 32, none⟩ = some (.int .i64 (N : Int)) := by
    unfold World.cell?
    rw [h3]
    have := cellsB_count hB2.len
    rw [List.length_cons, HN.out] at this
    dsimp only
    rw [if_neg (by simp), List.getElem?_toArray, List.getElem?_append_right (by rw [hcl]; omega), List.getElem?_drop, show (CQ t).flatten.length + (32 - (CQ t).flatten.length) = 32 by rw [hcl]; omega]
    exact this
  have hl3 : Hid (((CQ t).flatten ++ (cellsB (q :: t)).drop (CQ t).flatten.length).length = 33) := by
    show _ = _
    rw [List.length_append, List.length_drop, cellsB_length hB2.len, hcl]; omega
  have HBW := Hid.mk hB2
  clear e2 hc1 hsrc hcl e3 hB2 hB1
  go_region_held3 (fun W => W.cell? ⟨p, 32, none⟩ = some (.int .i64 (N : Int))) (first | exact S0 | exact hc3) (first | (refine step_copy_run 26 26 (.tmp 17) (.tmp 25) (by rfl) (by rfl) _ _ (by rfl) (by rfl) hrun ?_))
  clear S0 hrun
  have hf3 : W3.frozen? ⟨p, 32, none⟩ = false := by simp [World.frozen?, h3]
  go_wp2_with fail
  have hpw : p < w.heap.size := HB.out.lt
  have hn8 : t.length < 8 := by have := HN.out; omega
  have hNn : (N : Int) - 1 = (t.length : Int) := by have := HN.out; omega
  rw [hNn]
  have h4 := set_list (k := 32) (x := .int .i64 (t.length : Int)) h3
  have k4 := k3.setCell (p := ⟨p, 32, none⟩) (.inl (by simp)) (.int .i64 (t.length : Int))
  have hcc : (W3.setCell ⟨p, 32, none⟩ (.int .i64 (t.length : Int))).cell? ⟨p, 32, none⟩ = some (.int .i64 (t.length : Int)) := World.cell?_setCell_same _ _ _ hc3
  have hl4 : Hid ((((CQ t).flatten ++ (cellsB (q :: t)).drop (CQ t).flatten.length).set 32 (.int .i64 (t.length : Int))).length = 33) := by
    show _ = _
    rw [List.length_set]; exact hl3.out
  have HPOP := Hid.mk (cellsB_pop q t hn8)
  have hz4 : (W3.setCell ⟨p, 32, none⟩ (.int .i64 (t.length : Int))).heap.size = W3.heap.size := by simp
  generalize W3.setCell ⟨p, 32, none⟩ (.int .i64 (t.length : Int)) = W4 at h4 k4 hcc hz4 ⊢
  generalize ((CQ t).flatten ++ (cellsB (q :: t)).drop (CQ t).flatten.length).set 32 (.int .i64 (t.length : Int)) = L4 at h4 hl4 HPOP
  have S4 : W4.drew.cell? ⟨p, 32, none⟩ = some (.int .i64 (t.length : Int)) := hcc
  have hany : ∀ i, i < 33 → ∃ v, W4.drew.cell? ⟨p, i, none⟩ = some v := fun i hi => by
    refine ⟨L4[i]'(by rw [hl4.out]; exact hi), ?_⟩
    show W4.cell? _ = _
    simp [World.cell?, h4, hl4.out, hi]
  have hfree : ∀ i, W4.drew.frozen? ⟨p, i, none⟩ = false := fun i => by
    show W4.frozen? _ = _
    simp [World.frozen?, h4]
  obtain ⟨d0, hd0⟩ := hany (t.length * 4) (by omega)
  obtain ⟨d1, hd1⟩ := hany (t.length * 4 + 1) (by omega)
  obtain ⟨d2, hd2⟩ := hany (t.length * 4 + 2) (by omega)
  obtain ⟨d3, hd3⟩ := hany (t.length * 4 + 3) (by omega)
  have f0 := hfree (t.length * 4)
  have f1 := hfree (t.length * 4 + 1)
  have f2 := hfree (t.length * 4 + 2)
  have f3 := hfree (t.length * 4 + 3)
  have S5 : ((((W4.drew.setCell ⟨p, t.length * 4, none⟩ (.string { data := #[] })).setCell ⟨p, t.length * 4 + 1, none⟩ (.int .u64 0)).setCell ⟨p, t.length * 4 + 2, none⟩ (.int .i64 0)).setCell ⟨p, t.length * 4 + 3, none⟩ (.slice none 0 0)).cell? ⟨p, 32, none⟩ = some (.int .i64 (t.length : Int)) := by
    rw [put4_cell _ _ _ _ _ _ _ (by intro _; simp; omega)]
    exact S4
  have i0 : (0 : Int) ≤ (t.length : Int) := by omega
  have i1 : (t.length : Int) < 8 := by omega
  have e0 : W4.cell? ⟨p, t.length * 4, none⟩ = some d0 := hd0
  have e1 : W4.cell? ⟨p, t.length * 4 + 1, none⟩ = some d1 := hd1
  have e2 : W4.cell? ⟨p, t.length * 4 + 2, none⟩ = some d2 := hd2
  have e3 : W4.cell? ⟨p, t.length * 4 + 3, none⟩ = some d3 := hd3
  have f4 : W4.frozen? ⟨p, t.length * 4, none⟩ = false := f0
  have f5 : W4.frozen? ⟨p, t.length * 4 + 1, none⟩ = false := f1
  have f6 : W4.frozen? ⟨p, t.length * 4 + 2, none⟩ = false := f2
  have f7 : W4.frozen? ⟨p, t.length * 4 + 3, none⟩ = false := f3
  have H4 := Hid.mk h4
  have HK4 := Hid.mk k4
  clear hany hfree hc3 hf3 g1 g8 g0 hcc hz4 hNn h4 k4 h3 k3 hz3
  go_region_held3 (fun W => W.cell? ⟨p, 32, none⟩ = some (.int .i64 (t.length : Int))) (first | exact S4 | exact S5) (fail)
  clear S4 S5 f0 f1 f2 f3 hd0 hd1 hd2 hd3 e0 e1 e2 e3 f4 f5 f6 f7
  have h4 := H4.out
  have k4 := HK4.out
  obtain ⟨W5, e5, k5, h5, hz5⟩ := putL (w := W4) (o := t.length * 4) h4 (.string { data := #[] }) (.int .u64 0) (.int .i64 0) (.slice none 0 0)
  rw [e5]
  rw [HPOP.out] at h5
  have kd := k4
  have h5 : W5.drew.heap[p]? = some (.cells (cellsB t).toArray 67 (0, 0)) := h5
  have k5 := k5.drew
  clear hz5 e5
  generalize W5.drew = W5 at h5 k5 ⊢
  have k15 : Kept [p] w1 W5 := ((k2.mono (by simp)).trans (Kept.refl [p] W2).drew (by simp)).trans (kd.trans k5 (by simp)) (by simp)
  have hb5 := k15.keeps hb1 (by simp; omega)
  have hb6 : W5.heap[w1.heap.size]? = some (.cells #[Sv q.x.fr, .int .u64 (q.x.ser : Int), .int .i64 q.x.kind, .slice a1 q.x.args.length c1] 25) := (kd.trans k5 (by simp)).keeps (w := W2.drew) hb2 (by simp; omega)
  obtain ⟨c0, c1', c2, c3⟩ := cells4 hb5
  obtain ⟨f0, f1, f2, f3⟩ := free4 hb5
  obtain ⟨d0', d1', d2', d3'⟩ := cells4 hb6
  have k05 : Kept [p] w W5 := ((k0.trans k1 (by simp)).mono (by simp)).trans k15 (by simp)
  have hO5 := hO1.kept k15 (fun g hg hm => by simp at hm; subst hm; have := hf1 _ hg; have := k0.size; omega)
  have hB5 : IsB W5 p t := ⟨h5, by omega, fun y hy => (HB.out).good y (by simp [hy]), fun y hy => ((HB.out).args y (by simp [hy])).kept k05 (fun g hg hm => by simp at hm; subst hm; exact ownsJ_ne ((HB.out).args y (by simp [hy])) (HB.out).box (by decide) hg)⟩
  have HH : Hid (W5.heap[w.heap.size]? = some (.cells #[.string { data := #[] }, .int .u64 0, .int .i64 0, .slice none 0 0] 25) ∧ Kept [p] w W5 ∧ OwnsJ W5 (.slice a1 q.x.args.length c1) q.x.args ∧ IsB W5 p t) := ⟨hb5, k05, hO5, hB5⟩
  have hne : w.heap.size ≠ w1.heap.size := by omega
  clear hb5 hb6 k05 hO5 hB5 k15 kd k5 h5 h4 k4 hz2 hb2 k2 hl3 hl4 HPOP HBW H4 HK4
  go_wp2_with fail
  obtain ⟨W8, e8, k8, h8, -⟩ := put4 HH.out.1 (Sv q.x.fr) (.int .u64 (q.x.ser : Int)) (.int .i64 q.x.kind) (.slice a1 q.x.args.length c1)
  rw [e8]
  refine bodyPost_ret (results_cell_row2 (p := 2) (u := 3) (ty := 25) rfl _ _ w.heap.size 25 _ (0, 0) _ rfl h8 Tryd.underlying25 rfl (by kernel_rfl) _ rfl) rfl ?_
  refine ⟨a1, c1, rfl, HH.out.2.2.1.kept k8 (fun g hg hm => by simp at hm; subst hm; exact ownsJ_ne HH.out.2.2.1 HH.out.1 (by decide) hg), HH.out.2.1.trans k8 (by simp), fun g hg => by have := hf1 g hg; have := k0.size; omega, HH.out.2.2.2.kept k8 (by simp; omega) (fun y hy g hg hm => by simp at hm; subst hm; exact ownsJ_ne (HH.out.2.2.2.args y hy) HH.out.1 (by decide) hg)⟩
end
end Go.Proofs.YtngnenbidpojeaaDoor
