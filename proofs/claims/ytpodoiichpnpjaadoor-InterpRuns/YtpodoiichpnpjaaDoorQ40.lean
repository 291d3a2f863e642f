import Derived.Test.YtpodoiichpnpjaaDoorQ11
import Derived.Test.YtpodoiichpnpjaaDoorQ33
import Derived.Test.YtpodoiichpnpjaaDoorQ39
/-
  Results that are the same: SameEvents, SameTimers, Same.
-/
namespace Go.Proofs.YtpodoiichpnpjaaDoor
open Go.RowKit
set_option maxRecDepth 100000
set_option linter.unusedVariables false
theorem rowSn_at {w : World} {a : Option Addr} {n c : Nat} {C : List Sn} (h : ReadsR 3 w (.slice a n c) (rowS C)) {j : Nat} {x : Sn} (hj : C[j]? = some x) : ∃ b o, a = some ⟨b, o, none⟩ ∧ w.cell? ⟨b, o + j * 3, none⟩ = some (.string ⟨x.to.toArray⟩) ∧ w.cell? ⟨b, o + j * 3 + 1, none⟩ = some (.int .i64 x.kind) ∧ w.cell? ⟨b, o + j * 3 + 2, none⟩ = some (.int .i64 x.arg) := by
  obtain ⟨b, o, c', e, hc⟩ := h.at j [.string ⟨x.to.toArray⟩, .int .i64 x.kind, .int .i64 x.arg] (by simp [rowS, hj])
  simp only [Value.slice.injEq] at e
  exact ⟨b, o, e.1, hc 0 _ rfl, hc 1 _ rfl, hc 2 _ rfl⟩
section
variable {w : World}
set_option maxHeartbeats 2000000 in
theorem same23 {a a' : Option Addr} {c c' : Nat} {C : List Ev} (h : ReadsR 2 w (.slice a C.length c) (rowE C)) (h' : ReadsR 2 w (.slice a' C.length c') (rowE C)) : Calls Tryd.prog 23 #[.slice a C.length c, .slice a' C.length c'] w fun e w' => e = .returned (.bool true) ∧ Kept [] w w' := by
  have H := Hid.mk h
  have H' := Hid.mk h'
  have hl : C.length ≤ 9223372036854775807 := by
    obtain ⟨_, _, e, h2, h3⟩ := h.form
    rw [rowE_length] at h2
    omega
  clear h h'
  go_enter Tryd.func23, Tryd.ntmps23
  go_wp2_with fail
  go_loopw [13] (fun i wr => ∃ j : Nat, i = .int .i64 (j : Int) ∧ j ≤ C.length ∧ Hid (Kept [] w wr)) (fun i _ => C.length - (intOf i).toNat)
  case atStart => exact ⟨0, rfl, by omega, Hid.mk (Kept.refl [] w)⟩
  case round =>
    obtain ⟨j, rfl, hj, HK⟩ := hrel
    by_cases hlt : j < C.length
    · have hltI : (j : Int) < (C.length : Int) := by omega
      have hj0 : (0 : Int) ≤ (j : Int) := by omega
      have hy : C[j]? = some C[j] := List.getElem?_eq_getElem hlt
      have KD := HK.out.drew
      obtain ⟨b, o, rfl, s0, s1⟩ := rowE_at (H.out.keep KD) hy
      obtain ⟨b', o', rfl, r0, r1⟩ := rowE_at (H'.out.keep KD) hy
      have HN := Hid.mk KD
      clear KD hy
      generalize C[j].v = yv at *
      generalize (C[j].r : Int) = yr at *
      go_wp2_with fail
      go_region
      go_wp2_with fail
      go_roundw
      case rel => exact ⟨j + 1, by go_num, by omega, HN⟩
      case measure => simp [intOf]; omega
    · have hltI : ¬ (j : Int) < (C.length : Int) := by omega
      go_wp2_with fail
      go_ret
      exact ⟨rfl, HK.out⟩
set_option maxHeartbeats 2000000 in
theorem same24 {a a' : Option Addr} {c c' : Nat} {C : List Tm} (h : ReadsR 5 w (.slice a C.length c) (rowT C)) (h' : ReadsR 5 w (.slice a' C.length c') (rowT C)) : Calls Tryd.prog 24 #[.slice a C.length c, .slice a' C.length c'] w fun e w' => e = .returned (.bool true) ∧ Kept [] w w' := by
  have H := Hid.mk h
  have H' := Hid.mk h'
  have hl : C.length ≤ 9223372036854775807 := by
    obtain ⟨_, _, e, h2, h3⟩ := h.form
    rw [rowT_length] at h2
    omega
  clear h h'
  go_enter Tryd.func24, Tryd.ntmps24
  go_wp2_with fail
  go_loopw [13] (fun i wr => ∃ j : Nat, i = .int .i64 (j : Int) ∧ j ≤ C.length ∧ Hid (Kept [] w wr)) (fun i _ => C.length - (intOf i).toNat)
  case atStart => exact ⟨0, rfl, by omega, Hid.mk (Kept.refl [] w)⟩
  case round =>
    obtain ⟨j, rfl, hj, HK⟩ := hrel
    by_cases hlt : j < C.length
    · have hltI : (j : Int) < (C.length : Int) := by omega
      have hj0 : (0 : Int) ≤ (j : Int) := by omega
      have hy : C[j]? = some C[j] := List.getElem?_eq_getElem hlt
      have KD := HK.out.drew
      obtain ⟨b, o, c1, e1, s0, s1, s2, s3, s4⟩ := rowT_at (H.out.keep KD) hy
      obtain ⟨b', o', c2, e2, r0, r1, r2, r3, r4⟩ := rowT_at (H'.out.keep KD) hy
      simp only [Value.slice.injEq, true_and] at e1 e2
      obtain ⟨rfl, rfl⟩ := e1
      obtain ⟨rfl, rfl⟩ := e2
      have HN := Hid.mk KD
      clear KD hy
      generalize C[j].nm = tn at *
      generalize C[j].due = td at *
      generalize C[j].per = tp at *
      generalize C[j].kind = tk at *
      generalize C[j].can = tcn at *
      go_wp2_with fail
      go_region
      go_wp2_with fail
      go_roundw
      case rel => exact ⟨j + 1, by go_num, by omega, HN⟩
      case measure => simp [intOf]; omega
    · have hltI : ¬ (j : Int) < (C.length : Int) := by omega
      go_wp2_with fail
      go_ret
      exact ⟨rfl, HK.out⟩
end
end Go.Proofs.YtpodoiichpnpjaaDoor
/-
  Timers, as the document has them.
-/
namespace Go.Proofs.YtpodoiichpnpjaaDoor
open Go.RowKit
set_option maxRecDepth 100000
set_option linter.unusedVariables false
section
variable {w : World}
set_option maxHeartbeats 4000000 in
theorem timers25 {a : Option Addr} {c : Nat} {C : List Tm} (h : ReadsR 5 w (.slice a C.length c) (rowT C)) (hl : C.length ≤ 900) : Calls Tryd.prog 25 #[.slice a C.length c] w fun e w' => ∃ a' c', e = .returned (.slice a' C.length c') ∧ Out 100 5 w w' (.slice a' C.length c') (rowT C) := by
  have H := Hid.mk h
  clear h
  have HO : Hid (Out 100 5 w w (.slice none 0 0) (rowT (C.take 0))) := Hid.mk (Out.nil (Kept.refl [] w))
  go_enter Tryd.func25, Tryd.ntmps25
  go_wp2_with fail
  go_loopw [3, 7] (fun u i wr => ∃ (j : Nat) (a' : Option Addr) (c' : Nat), i = .int .i64 (j : Int) ∧ j ≤ C.length ∧ u = .slice a' j c' ∧ Hid (Out 100 5 w wr (.slice a' j c') (rowT (C.take j)))) (fun _ i _ => C.length - (intOf i).toNat)
  case atStart => exact ⟨0, none, 0, rfl, by omega, rfl, HO⟩
  case round =>
    obtain ⟨j, a', c', rfl, hj, rfl, HR⟩ := hrel
    by_cases hlt : j < C.length
    · have hltI : (j : Int) < (C.length : Int) := by omega
      have hj0 : (0 : Int) ≤ (j : Int) := by omega
      have hy : C[j]? = some C[j] := List.getElem?_eq_getElem hlt
      obtain ⟨b, o, c1, e1, s0, s1, s2, s3, s4⟩ := rowT_at (H.out.keep HR.out.kept) hy
      simp only [Value.slice.injEq, true_and] at e1
      obtain ⟨rfl, rfl⟩ := e1
      have htl : (rowT (C.take j)).length = j := by rw [rowT_length, List.length_take]; omega
      obtain ⟨ad, cc, w2, hrun, hO⟩ := HR.out.more rt47F [.string ⟨C[j].nm.toArray⟩, .bool C[j].can, .int .i64 C[j].due, .int .i64 C[j].per, .int .i64 C[j].kind] rfl (by simp [Value.oneCell']) (by rw [htl]; omega) 100 (0, 0) 47
      rw [htl] at hrun hO
      have e9 : rowT (C.take (j + 1)) = rowT (C.take j) ++ [[.string ⟨C[j].nm.toArray⟩, .bool C[j].can, .int .i64 C[j].due, .int .i64 C[j].per, .int .i64 C[j].kind]] := by
        have e8 : C.take (j + 1) = C.take j ++ [C[j]] := by rw [List.take_add_one, hy]; rfl
        rw [e8]
        simp only [rowT, List.map_append, List.map_cons, List.map_nil]
      rw [← e9] at hO
      have HN := Hid.mk hO
      clear hO e9 hy htl
      generalize C[j].nm = tn at *
      generalize C[j].due = td at *
      generalize C[j].per = tp at *
      generalize C[j].kind = tk at *
      generalize C[j].can = tcn at *
      have hrun : (Builtin.append_ #[47, 47] 47 #[.slice a' j c', .slice (some ⟨wr.heap.size, 0, none⟩) 1 1]).run Tryd.prog (wr.alloc (.cells #[.string ⟨tn.toArray⟩, .bool tcn, .int .i64 td, .int .i64 tp, .int .i64 tk] 100)) = .ok (.slice ad (j + 1) cc) w2 := hrun
      go_wp2_with (at_builtin; refine wpList_append_run 47 47 (.tmp 10) (.tmp 15) rfl (by rfl) _ _ rfl rfl _ _ hrun ?_)
      go_roundw
      case rel => exact ⟨j + 1, ad, cc, by go_num, by omega, rfl, HN⟩
      case measure => simp [intOf]; omega
    · have hltI : ¬ (j : Int) < (C.length : Int) := by omega
      obtain rfl : j = C.length := by omega
      have HR2 : Hid (Out 100 5 w wr (.slice a' C.length c') (rowT C)) := by
        have := HR.out
        rw [List.take_length] at this
        exact this
      go_wp2_with fail
      go_ret
      exact ⟨_, _, rfl, HR2.out⟩
end
end Go.Proofs.YtpodoiichpnpjaaDoor
