import Derived.Test.YtdadloaifebdiaaGreatQ21
/-
  Len, First and Push of an inbox.
-/
namespace Go.Proofs.YtdadloaifebdiaaGreat
open Go.RowKit
set_option linter.unusedVariables false
/-- What Push answers, of an inbox with n letters. -/
def pushE (n : Nat) (x : Lt) : Int := if x.formed = false then 1 else if n = 8 then 7 else 0
/-- What Push leaves. -/
def pushL (l : List Lt) (x : Lt) : List Lt := if x.formed = true ∧ l.length ≠ 8 then l ++ [x] else l
def PushAt (w : World) (p : Nat) (qs : List Lq) (x : Lt) (e : Ending) (w' : World) : Prop :=
  ∃ qs', e = .returned (.int .i64 (pushE qs.length x)) ∧ IsB w' p qs' ∧ qs'.map (·.x) = pushL (qs.map (·.x)) x ∧ Kept [p] w w' ∧ ∀ q ∈ qs', q ∈ qs ∨ Fresh w q.sl
section
variable {w : World} {p : Nat} {qs : List Lq}
theorem push_bad {w' : World} {x : Lt} (h : IsB w' p qs) (hf : x.formed = false) (k : Kept [] w w') : PushAt w p qs x (.returned (.int .i64 1)) w' :=
  ⟨qs, by unfold pushE; rw [if_pos hf], h, by unfold pushL; rw [if_neg (by simp [hf])], k.mono (by simp), fun q hq => .inl hq⟩
theorem push_full {w' : World} {x : Lt} (h : IsB w' p qs) (hf : x.formed = true) (hn : qs.length = 8) (k : Kept [] w w') : PushAt w p qs x (.returned (.int .i64 7)) w' :=
  ⟨qs, by unfold pushE; rw [if_neg (by simp [hf]), if_pos hn], h, by unfold pushL; rw [if_neg (by simp [hn])], k.mono (by simp), fun q hq => .inl hq⟩
theorem push_yes {w' : World} {x : Lt} {a : Option Addr} {c : Nat} (hf : x.formed = true) (hn : qs.length ≠ 8) (h : IsB w' p (qs ++ [⟨x, a, c⟩])) (k : Kept [p] w w') (hfr : Fresh w (.slice a x.args.length c)) : PushAt w p qs x (.returned (.int .i64 0)) w' :=
  ⟨_, by unfold pushE; rw [if_neg (by simp [hf]), if_neg hn], h, by unfold pushL; rw [if_pos ⟨hf, by simpa using hn⟩]; simp, k, fun q hq => by
    rcases List.mem_append.1 hq with h | h
    · exact .inl h
    · simp at h; subst h; exact .inr hfr⟩
set_option maxRecDepth 100000 in
set_option maxHeartbeats 1000000 in
theorem len21 (hB : IsB w p qs) : Calls Tryz.prog 66 #[.pointer (some ⟨p, 0, none⟩)] w fun e w' => e = .returned (.int .i64 (qs.length : Int)) ∧ w = w' := by
  have hc := hB.count
  clear hB
  go_enter Tryz.func66, Tryz.ntmps66
  go_wp2_with fail
  go_ret
  exact ⟨rfl, rfl⟩
theorem len21_nil : Calls Tryz.prog 66 #[.pointer none] w fun e w' => e = .returned (.int .i64 0) ∧ w = w' := by
  go_enter Tryz.func66, Tryz.ntmps66
  go_wp2_with fail
  go_ret
  exact ⟨rfl, rfl⟩
set_option maxRecDepth 100000 in
set_option maxHeartbeats 1000000 in
theorem new10 : Calls Tryz.prog 65 #[] w fun e w' => e = .returned (.pointer (some ⟨w.heap.size, 0, none⟩)) ∧ IsB w' w.heap.size [] ∧ Kept [] w w' ∧ w'.heap.size = w.heap.size + 1 := by
  go_enter Tryz.func65, Tryz.ntmps65
  go_wp2_with fail
  go_ret
  exact ⟨rfl, IsB.new w, (Kept.refl [] w).alloc _, by simp⟩
set_option maxRecDepth 100000 in
set_option maxHeartbeats 1000000 in
theorem push11 (x : Lt) (a : Option Addr) (c : Nat) (hB : IsB w p qs) (hx : ReadsJ w (.slice a x.args.length c) x.args) (hok : x.ok) :
    Calls Tryz.prog 51 #[.pointer (some ⟨p, 0, none⟩), Lv x a c] w fun e w' => PushAt w p qs x e w' := by
  have HB := Hid.mk hB
  have HX := Hid.mk hx
  have H1 : Hid (∀ W, IsB W p qs → x.formed = false → Kept [] w W → PushAt w p qs x (.returned (.int .i64 1)) W) := fun W => push_bad
  have H2 : Hid (∀ W, IsB W p qs → x.formed = true → qs.length = 8 → Kept [] w W → PushAt w p qs x (.returned (.int .i64 7)) W) := fun W => push_full
  have H3 : Hid (∀ W a c, x.formed = true → qs.length ≠ 8 → IsB W p (qs ++ [⟨x, a, c⟩]) → Kept [p] w W → Fresh w (.slice a x.args.length c) → PushAt w p qs x (.returned (.int .i64 0)) W) := fun W a c => push_yes
  generalize PushAt w p qs x = R at H1 H2 H3
  clear hB hx
  go_enter Tryz.func51, Tryz.ntmps51
  go_wp2_with fail
  obtain ⟨W0, e0, k0, hz0, hb0⟩ := box1 w (.cells #[Sv x.fr, .int .u64 (x.ser : Int), .int .i64 x.kind, .slice a x.args.length c] 90)
  rw [e0]
  clear e0
  refine (formed13 x a c).mono ?_
  rintro e w1 ⟨rfl, k1⟩
  have hb1 := k1.keeps hb0 (by simp)
  have k01 := k0.trans k1 (by simp)
  have hB1 := HB.out.kept0 k01
  have hc1 := hB1.count
  cases hfm : x.formed with
  | false =>
    go_wp2_with fail
    exact H1.out _ hB1 hfm k01
  | true =>
    have HF := Hid.mk hfm
    have hfl := formed_le hfm
    clear hfm
    have hlen := hB1.len
    by_cases h8 : qs.length = 8
    · have g8 : ((qs.length : Int) == 8) = true := by simp; omega
      have H8 := Hid.mk h8
      clear h8
      go_wp2_with fail
      exact H2.out _ hB1 HF.out H8.out k01
    · have g8 : ((qs.length : Int) == 8) = false := by simp; omega
      have h8' : qs.length < 8 := by omega
      have H8 := Hid.mk h8
      clear h8 hlen
      have kd := k01.drew
      have hB2 := HB.out.kept0 kd
      have hbd : w1.drew.heap[w.heap.size]? = some (.cells #[Sv x.fr, .int .u64 (x.ser : Int), .int .i64 x.kind, .slice a x.args.length c] 90 (0, 0)) := hb1
      have HS : Hid (∀ W, Kept [] w1.drew W → (W.cell? ⟨p, 32, none⟩ = some (.int .i64 (qs.length : Int)) ∧ W.cell? ⟨w.heap.size, 0, none⟩ = some (Sv x.fr) ∧ W.cell? ⟨w.heap.size, 1, none⟩ = some (.int .u64 (x.ser : Int)) ∧ W.cell? ⟨w.heap.size, 2, none⟩ = some (.int .i64 x.kind) ∧ W.cell? ⟨w.heap.size, 3, none⟩ = some (.slice a x.args.length c))) := fun W k => by
        obtain ⟨c0, c1, c2, c3⟩ := cells4 hbd
        exact ⟨k.cell_eq hB2.count, k.cell_eq c0, k.cell_eq c1, k.cell_eq c2, k.cell_eq c3⟩
      have S0 := HS.out _ (Kept.refl [] _)
      obtain ⟨d0, hd0⟩ := hB2.any (i := qs.length * 4) (by omega)
      obtain ⟨d1, hd1⟩ := hB2.any (i := qs.length * 4 + 1) (by omega)
      obtain ⟨d2, hd2⟩ := hB2.any (i := qs.length * 4 + 2) (by omega)
      obtain ⟨d3, hd3⟩ := hB2.any (i := qs.length * 4 + 3) (by omega)
      have HD : Hid (∀ W, Kept [] w1.drew W → (W.cell? ⟨p, qs.length * 4, none⟩ = some d0 ∧ W.cell? ⟨p, qs.length * 4 + 1, none⟩ = some d1 ∧ W.cell? ⟨p, qs.length * 4 + 2, none⟩ = some d2 ∧ W.cell? ⟨p, qs.length * 4 + 3, none⟩ = some d3) ∧ (W.frozen? ⟨p, qs.length * 4, none⟩ = false ∧ W.frozen? ⟨p, qs.length * 4 + 1, none⟩ = false ∧ W.frozen? ⟨p, qs.length * 4 + 2, none⟩ = false ∧ W.frozen? ⟨p, qs.length * 4 + 3, none⟩ = false)) := fun W k =>
        ⟨⟨k.cell_eq hd0, k.cell_eq hd1, k.cell_eq hd2, k.cell_eq hd3⟩, (hB2.kept0 k).free _, (hB2.kept0 k).free _, (hB2.kept0 k).free _, (hB2.kept0 k).free _⟩
      clear hd0 hd1 hd2 hd3
      have HP : Hid (∀ W a2 c2, Kept [] w1.drew W → ((((((W.setCell ⟨p, qs.length * 4, none⟩ (Sv x.fr)).setCell ⟨p, qs.length * 4 + 1, none⟩ (.int .u64 (x.ser : Int))).setCell ⟨p, qs.length * 4 + 2, none⟩ (.int .i64 x.kind)).setCell ⟨p, qs.length * 4 + 3, none⟩ (.slice a2 x.args.length c2)).cell? ⟨p, 32, none⟩ = some (.int .i64 (qs.length : Int))) ∧ (((((W.setCell ⟨p, qs.length * 4, none⟩ (Sv x.fr)).setCell ⟨p, qs.length * 4 + 1, none⟩ (.int .u64 (x.ser : Int))).setCell ⟨p, qs.length * 4 + 2, none⟩ (.int .i64 x.kind)).setCell ⟨p, qs.length * 4 + 3, none⟩ (.slice a2 x.args.length c2)).cell? ⟨w.heap.size, 0, none⟩ = some (Sv x.fr)) ∧ (((((W.setCell ⟨p, qs.length * 4, none⟩ (Sv x.fr)).setCell ⟨p, qs.length * 4 + 1, none⟩ (.int .u64 (x.ser : Int))).setCell ⟨p, qs.length * 4 + 2, none⟩ (.int .i64 x.kind)).setCell ⟨p, qs.length * 4 + 3, none⟩ (.slice a2 x.args.length c2)).cell? ⟨w.heap.size, 1, none⟩ = some (.int .u64 (x.ser : Int))) ∧ (((((W.setCell ⟨p, qs.length * 4, none⟩ (Sv x.fr)).setCell ⟨p, qs.length * 4 + 1, none⟩ (.int .u64 (x.ser : Int))).setCell ⟨p, qs.length * 4 + 2, none⟩ (.int .i64 x.kind)).setCell ⟨p, qs.length * 4 + 3, none⟩ (.slice a2 x.args.length c2)).cell? ⟨w.heap.size, 2, none⟩ = some (.int .i64 x.kind)) ∧ (((((W.setCell ⟨p, qs.length * 4, none⟩ (Sv x.fr)).setCell ⟨p, qs.length * 4 + 1, none⟩ (.int .u64 (x.ser : Int))).setCell ⟨p, qs.length * 4 + 2, none⟩ (.int .i64 x.kind)).setCell ⟨p, qs.length * 4 + 3, none⟩ (.slice a2 x.args.length c2)).cell? ⟨w.heap.size, 3, none⟩ = some (.slice a x.args.length c)))) := fun W a2 c2 k => by
        have hpl := HB.out.lt
        have := HS.out W k
        rw [put4_cell _ _ _ _ _ _ _ (by intro _; simp; omega), put4_cell _ _ _ _ _ _ _ (by simp; omega), put4_cell _ _ _ _ _ _ _ (by simp; omega), put4_cell _ _ _ _ _ _ _ (by simp; omega), put4_cell _ _ _ _ _ _ _ (by simp; omega)]
        exact this
      have hi0 : (0 : Int) ≤ (qs.length : Int) := by omega
      have hi1 : (qs.length : Int) < 8 := by omega
      have HC := Hid.mk (copy17 x a c (HX.out.kept kd (by simp)) (by omega) (by omega))
      have HKD := Hid.mk kd
      clear hB2 hbd hb1 hb0 k0 k1 hz0 kd
      go_wp2_with fail
      go_region_held3 (fun W => W.cell? ⟨p, 32, none⟩ = some (.int .i64 (qs.length : Int)) ∧ W.cell? ⟨w.heap.size, 0, none⟩ = some (Sv x.fr) ∧ W.cell? ⟨w.heap.size, 1, none⟩ = some (.int .u64 (x.ser : Int)) ∧ W.cell? ⟨w.heap.size, 2, none⟩ = some (.int .i64 x.kind) ∧ W.cell? ⟨w.heap.size, 3, none⟩ = some (.slice a x.args.length c)) (first | exact S0 | exact S1 | exact HP.out _ _ _ k2) (first | (go_at_call 93; refine HC.out.mono ?_; rintro e w2 ⟨a2, c2, rfl, hO2, k2, hf2⟩; have S1 := HS.out _ k2; obtain ⟨⟨j0, j1, j2, j3⟩, f0, f1, f2, f3⟩ := HD.out _ k2))
      clear S0 S1 j0 j1 j2 j3 f0 f1 f2 f3
      have hB3 := HB.out.kept0 (HKD.out.trans k2 (by simp))
      have hcc : ∀ v0 v1 v2 v3, (((((cellsB qs).set (qs.length * 4) v0).set (qs.length * 4 + 1) v1).set (qs.length * 4 + 2) v2).set (qs.length * 4 + 3) v3)[32]? = some (.int .i64 (qs.length : Int)) := fun v0 v1 v2 v3 => by
        rw [List.getElem?_set_ne (by omega), List.getElem?_set_ne (by omega), List.getElem?_set_ne (by omega), List.getElem?_set_ne (by omega)]
        exact cellsB_count hB3.len
      obtain ⟨W3, e3, k3, h3, hz3⟩ := putL (o := qs.length * 4) hB3.box (Sv x.fr) (.int .u64 (x.ser : Int)) (.int .i64 x.kind) (.slice a2 x.args.length c2)
      have hc3 : W3.cell? ⟨p, 32, none⟩ = some (.int .i64 (qs.length : Int)) := by
        unfold World.cell?
        rw [h3]
        simpa using hcc _ _ _ _
      have hf3 : W3.frozen? ⟨p, 32, none⟩ = false := by simp [World.frozen?, h3]
      have h4 := set_list (k := 32) (x := .int .i64 ((qs.length + 1 : Nat) : Int)) h3
      rw [cellsB_push qs ⟨x, a2, c2⟩ h8'] at h4
      have k4 := k3.setCell (p := ⟨p, 32, none⟩) (.inl (by simp)) (.int .i64 ((qs.length + 1 : Nat) : Int))
      have kA : Kept [p] w _ := (HKD.out.trans k2 (by simp)).mono (by simp) |>.trans k4 (by simp)
      have hB4 : IsB (W3.setCell ⟨p, 32, none⟩ (.int .i64 ((qs.length + 1 : Nat) : Int))) p (qs ++ [⟨x, a2, c2⟩]) := by
        refine ⟨h4, by simp; omega, fun q hq => ?_, fun q hq => ?_⟩
        · rcases List.mem_append.1 hq with h | h
          · exact hB3.good q h
          · simp at h; subst h; exact ⟨hok, HF.out⟩
        · have : OwnsJ w2 q.sl q.x.args := by
            rcases List.mem_append.1 hq with h | h
            · exact hB3.args q h
            · simp at h; subst h; exact hO2
          exact this.kept k4 (fun g hg hm => by simp at hm; subst hm; exact ownsJ_ne this hB3.box (by decide) hg)
      have hfr : Fresh w (.slice a2 x.args.length c2) := fun g hg => by have := hf2 g hg; have := HKD.out.size; omega
      have HR := Hid.mk (H3.out _ a2 c2 HF.out H8.out hB4 kA hfr)
      rw [e3]
      clear hB4 kA hfr k4 h4 h3 hcc hB3 e3 k3 hz3
      go_wp2_with fail
      exact HR.out
end
end Go.Proofs.YtdadloaifebdiaaGreat
