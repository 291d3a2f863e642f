/-
  Theirs: a program laid anew.
-/
import Derived.Test.YtpodoiichpnpjaaDoorRw
import Derived.Deep.RegionHeld3
import Derived.Deep.RegionLaw
import Derived.Deep.DrawnRows
namespace Go.Proofs.YtpodoiichpnpjaaDoor
open Go.RowKit
set_option maxRecDepth 100000
set_option linter.unusedVariables false
theorem Out.all {T e : TypeId} {k b : Nat} {z : Value} {w wr : World} {u : Value} {rs : List (List Value)} (R : RowT T e k b z) (h : Out e k w wr u rs) (x : Value) (m : List (List Value)) (hm : Wide k m) (hr : ReadsR k wr x m) (hl : rs.length + m.length ≤ 1000000) (ty : TypeId) :
    ∃ ad c w2, (Builtin.append_ #[T, T] ty #[u, x]).run Tryd.prog wr = .ok (.slice ad (rs.length + m.length) c) w2 ∧ Out e k w w2 (.slice ad (rs.length + m.length) c) (rs ++ m) := by
  obtain ⟨ad, c, w2, hrun, hO, hg, hN⟩ := run_appendR R wr ty u rs h.own x m hm hr hl
  have k2 : Kept u.ownBlock.toList wr w2 := ((Kept.refl [] wr).mono (by simp)).grown hg (fun x hx => .inl (by rw [Option.mem_toList]; exact hx))
  refine ⟨ad, c, w2, hrun, hO, fun g hg => ?_, h.kept.trans k2 (fun x hx => .inr (h.new x (by simpa using hx)))⟩
  rcases hN g hg with h3 | h3
  · exact h.new g h3
  · exact Nat.le_trans h.kept.size h3
section
variable {w : World}
set_option maxHeartbeats 4000000 in
theorem theirs11 {v u : Value} {p : Pg} (hP : IsP w v u p) (hn : p.names.length ≤ 1000) (hc : p.code.length ≤ 1000) : Calls Tryd.prog 12 #[.agg #[v, u]] w fun e w' => ∃ v' u', e = .returned (.agg #[v', u']) ∧ IsP w' v' u' p ∧ Kept [] w w' := by
  obtain ⟨a, c, b, d, rfl, rfl, hl1, hl2⟩ := hP.form
  obtain ⟨W0, e0, k0, hz0, hb0, hb1⟩ := box2 w (.cells #[.slice a p.names.length c, .slice b p.code.length d] 25) (.cells #[.slice none 0 0, .slice none 0 0] 43)
  obtain ⟨y0, y1⟩ := cells2 hb0
  obtain ⟨W1, e1, k1, hz1, hbn⟩ := box1 W0 (.cells #[] 9)
  have hown : OwnsR 9 1 W1 (.slice (some ⟨W0.heap.size, 0, none⟩) 0 0) [] := ownsR_block (rs := []) hbn (fun r hr => by simp at hr) rfl (by unfold maxLen; omega)
  have hout : Out 9 1 W0 W1 (.slice (some ⟨W0.heap.size, 0, none⟩) 0 0) [] := ⟨hown, fun g hg => by simp [Value.ownBlock] at hg; omega, k1⟩
  obtain ⟨ad, cc, W2, hrun, hO2⟩ := hout.all rt22 (.slice a p.names.length c) (rowN p.names) (wideN _) (hP.names.keep (k0.then k1)) (by rw [rowN_length]; simp; omega) 22
  rw [List.nil_append, rowN_length] at hO2
  have hl0 : ([] : List (List Value)).length = 0 := rfl
  rw [hl0, rowN_length] at hrun
  rw [hl0] at hO2
  rw [Nat.zero_add] at hrun hO2
  have hb0' := hO2.kept.keeps hb0 (by simp)
  obtain ⟨y2, y3⟩ := cells2 hb0'
  obtain ⟨y4, y5⟩ := cells2 (k1.keeps hb0 (by simp))
  obtain ⟨W3, e3, k3, hz3, hb3⟩ := box1 W2 (.cells #[.slice ad p.names.length cc, .slice none 0 0] 43)
  have HPB : Hid (PB 43 60 W0 W3 W2.heap.size (.slice ad p.names.length cc) (.slice none 0 0) ⟨p.names, []⟩) := ⟨hb3, hO2.keep k3, Out.nil (hO2.kept.then k3), hO2.kept.size⟩
  obtain ⟨y6, y7⟩ := cells2 (k3.keeps hb0' (by simp))
  have HE3 := Hid.mk e3
  have hlt2 : w.heap.size < W2.heap.size := lt_of_block hb0'
  clear e3
  have HB0 := Hid.mk hb0
  have HB1 := Hid.mk hb1
  have HK0 := Hid.mk k0
  have HP := Hid.mk (hP.keep k0)
  clear hown hout hO2 hb0' k3 hz3 hb3 k1 hz1 hbn hb0 hb1 k0 hz0 hP
  go_enter Tryd.func12, Tryd.ntmps12
  go_wp2_with (at_builtin; refine wpList_append_run 22 22 (.tmp 5) (.tmp 7) rfl (by rfl) _ _ rfl rfl _ _ hrun ?_)
  rw [HE3.out]
  generalize hgg : W2.heap.size = g at *
  clear hgg hrun
  have HG2 : Hid (∀ W W5, Kept [] W0 W → Kept [w.heap.size + 1] W W5 → Kept [] w W5) := fun W W5 k k5 => (HK0.out.then k).trans k5 (fun y hy => by simp at hy; subst hy; exact .inr (by omega))
  have hg2 : w.heap.size + 1 < W0.heap.size := lt_of_block HB1.out
  have HGG := Hid.mk hg2
  clear hg2
  generalize w.heap.size = g1 at *
  go_loopw [13] (fun i wr => ∃ (j : Nat) (u : Value), i = .int .i64 (j : Int) ∧ j ≤ p.code.length ∧ Hid (PB 43 60 W0 wr g (.slice ad p.names.length cc) u ⟨p.names, p.code.take j⟩)) (fun i _ => p.code.length - (intOf i).toNat)
  case atStart => exact ⟨0, _, rfl, by omega, by simpa using HPB⟩
  case round =>
    obtain ⟨j, u, rfl, hj, HB⟩ := hrel
    have HKr := Hid.mk HB.out.kept
    obtain ⟨va, vc, ua, uc, -, hu⟩ := HB.out.forms
    have hlen : (p.code.take j).length = j := by rw [List.length_take]; omega
    dsimp only at hu
    rw [hlen] at hu
    subst hu
    obtain ⟨x0, x1⟩ := cells2 (HKr.out.keeps HB0.out (by simp))
    by_cases hlt : j < p.code.length
    · obtain ⟨b1, o1, rfl, hc1, hc2⟩ := code_at (HP.out.code.keep HKr.out) hlt
      have hjI : (j : Int) < (p.code.length : Int) := by omega
      have hj0 : (0 : Int) ≤ (j : Int) := by omega
      have HD := HB.out.keep (Kept.refl [] wr).drew
      obtain ⟨ad2, c2, w2, hrun, r0, r1, hPB⟩ := HD.addCode rt31 (by decide) (by decide) (by decide) (by dsimp only; omega) p.code[j] 60 (0, 0) 41
      dsimp only at hrun r0 r1 hPB
      rw [hlen] at hrun hPB
      have e9 : p.code.take (j + 1) = p.code.take j ++ [p.code[j]] := by rw [List.take_add_one]; simp [hlt]
      rw [← e9] at hPB
      have HN := Hid.mk hPB
      have hrun' : (Builtin.append_ #[41, 41] 41 #[.slice ua j uc, .slice (some ⟨wr.heap.size, 0, none⟩) 1 1]).run Tryd.prog (wr.alloc (.cells #[.int .i64 p.code[j].op, .int .i64 p.code[j].arg] 60)).drew = .ok (.slice ad2 (j + 1) c2) w2 := hrun
      have S0 : wr.drew.cell? ⟨g, 1, none⟩ = some (.slice ua j uc) := HD.c1
      have S1 : (wr.alloc (.cells #[.int .i64 p.code[j].op, .int .i64 p.code[j].arg] 60)).drew.cell? ⟨g, 1, none⟩ = some (.slice ua j uc) := (((Kept.refl [] wr).alloc (.cells #[.int .i64 p.code[j].op, .int .i64 p.code[j].arg] 60)).drew).cell_eq HB.out.c1
      have S2 : wr.drew.cell? ⟨g1, 1, none⟩ = some (.slice (some ⟨b1, o1, none⟩) p.code.length d) := x1
      have S3 : wr.drew.cell? ⟨b1, o1 + j * 2, none⟩ = some (.int .i64 p.code[j].op) := hc1
      have S4 : wr.drew.cell? ⟨b1, o1 + j * 2 + 1, none⟩ = some (.int .i64 p.code[j].arg) := hc2
      clear hPB HD e9 hrun hlen
      generalize p.code[j].op = q1 at *
      generalize p.code[j].arg = q2 at *
      go_wp2_with fail
      go_region_law ((refine step_append_run 41 (.tmp 17) (.tmp 23) (by rfl) (by rfl) _ _ (by rfl) (by rfl) hrun' ?_))
      all_goals
        generalize w2.setCell ⟨g, 1, none⟩ (.slice ad2 (j + 1) c2) = W7 at *
        go_wp2_with fail
        go_roundw
        case rel => exact ⟨j + 1, _, by go_num, by omega, HN⟩
        case measure => simp [intOf]; omega
    · have hje : ¬ (j : Int) < (p.code.length : Int) := by omega
      obtain rfl : j = p.code.length := by omega
      rw [List.take_length] at HB
      have z0 := HB.out.c0
      have z1 := HB.out.c1
      have hbr := HKr.out.keeps HB1.out (by simp)
      have HBr := Hid.mk hbr
      obtain ⟨f0, f1⟩ := free2 hbr
      obtain ⟨d0, d1⟩ := cells2 hbr
      clear hbr hlen
      go_wp2_with fail
      obtain ⟨W5, e5, k5, hb5⟩ := put2 HBr.out (.slice ad p.names.length cc) (.slice ua p.code.length uc)
      rw [e5]
      clear e5
      refine bodyPost_ret (results_cell_row (p := 2) (ty := 43) rfl _ _ (g1 + 1) 43 _ (0, 0) _ rfl hb5 Tryd.underlying43 rfl (by kernel_rfl)) rfl ?_
      have hng : ∀ g', W0.heap.size ≤ g' → g' ∉ [g1 + 1] := fun g' h1 h2 => by have := HGG.out; simp at h2; omega
      exact ⟨_, _, rfl, ⟨HB.out.isP.names.kept k5 (fun g' h => hng g' (HB.out.names.new g' h)), HB.out.isP.code.kept k5 (fun g' h => hng g' (HB.out.code.new g' h))⟩, HG2.out _ _ HKr.out k5⟩
end
end Go.Proofs.YtpodoiichpnpjaaDoor
