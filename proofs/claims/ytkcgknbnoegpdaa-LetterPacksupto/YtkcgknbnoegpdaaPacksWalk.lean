/-
  LetterPacks: the walk.
-/
import Derived.Test.YtkcgknbnoegpdaaUn
import Derived.Test.YtkcgknbnoegpdaaSa
namespace Go.Proofs.Ytkcgknbnoegpdaa
open Go.RowKit
set_option linter.unusedVariables false
section
variable {w : World}
set_option maxRecDepth 100000 in
set_option maxHeartbeats 1000000 in
theorem packs_walk {a : Option Addr} {n c : Nat} {l : List Lq} (hr : RowQ w (.slice a n c) l) (hv : ValsQ w l) (hok : ∀ q ∈ l, q.x.ok) (vb : Value) (B : List UInt8) (hB : Reads w vb B) (hin : Inside w vb) (hBl : B.length ≤ 3000000) :
    Calls Try.prog 5 #[.slice a n c, vb] w fun e w' => e = .returned (.bool true) ∧ Kept [] w w' := by
  obtain ⟨hn, hc1, hc2⟩ := hr.bound
  have HR := Hid.mk hr
  have HV := Hid.mk hv
  have HB := Hid.mk hB
  have HI := Hid.mk hin
  have HK := Hid.mk hok
  have HN := Hid.mk hn
  clear hr hv hB hin hok hn
  go_enter Try.func5, Try.ntmps5
  go_wp2_with fail
  refine awake9.mono ?_
  rintro e w1 ⟨rfl, k1⟩
  go_wp2_with fail
  refine (few10 (HR.out.kept k1 (by simp))).mono ?_
  rintro e w2 ⟨fb, rfl, hfew, k2⟩
  have k02 := k1.trans k2 (by simp)
  cases fb with
  | false =>
    go_wp2_with fail
    refine awake9.mono ?_
    rintro e w3 ⟨rfl, k3⟩
    go_wp2_with fail
    go_ret
    exact ⟨rfl, k02.trans k3 (by simp)⟩
  | true =>
    have hfq := hfew rfl
    have hnl : n ≤ 301 := by have := hfq.1; have := HN.out; omega
    clear hfew hfq
    go_wp2_with fail
    refine (pack20 (HR.out.kept k02 (by simp)) (HV.out.kept0 k02) HK.out (by omega)).mono ?_
    rintro e w3 ⟨v3, rfl, hO3, k3, hf3⟩
    have k03 := k02.trans k3 (by simp)
    go_wp2_with fail
    refine (pack21 (HR.out.kept k03 (by simp)) (HV.out.kept0 k03) HK.out (by omega)).mono ?_
    rintro e w4 ⟨v4, rfl, hO4, k4, hf4⟩
    have k04 := k03.trans k4 (by simp)
    have r3 := hO3.reads.kept k4 (by simp)
    have r4 := hO4.reads
    generalize packB l = PB at r3 r4
    generalize packE l = PE
    go_wp2_with fail
    refine (unpack22 vb B (HB.out.kept k04 (by simp)) (by omega)).mono ?_
    rintro e w5 ⟨v5, qs, rfl, hq5, hO5, k5⟩
    have k05 := k04.trans k5 (by simp)
    generalize hE : (if (decP B).isSome = true then 0 else 2 : Int) = E
    have HE := Hid.mk hE
    clear hE
    go_wp2_with fail
    refine (unpack23 vb B (HB.out.kept k05 (by simp)) (fun g hg => by have := HI.out g hg; have := k05.size; omega) (by omega)).mono ?_
    rintro e w6 ⟨v6, qs', rfl, hq6, hO6, k6⟩
    have k06 := k05.trans k6 (by simp)
    rw [HE.out]
    have hqq : qs.map (·.x) = qs'.map (·.x) := hq5.trans hq6.symm
    have hO5' := hO5.kept0 k6
    obtain ⟨a5, c5, rfl, -, -⟩ := hO5.row.form
    obtain ⟨a6, c6, rfl, -, -⟩ := hO6.row.form
    have hal : ∀ q ∈ qs, q.x.args.length ≤ 1000000 := fun q hq => by
      have hm : q.x ∈ (decP B).getD [] := by rw [← hq5]; exact List.mem_map.2 ⟨q, hq, rfl⟩
      cases hd : decP B with
      | none => rw [hd] at hm; simp at hm
      | some xs =>
        rw [hd] at hm
        have := formed_le (decP_ok hd q.x (by simpa using hm)).2
        omega
    have hln : qs.length ≤ 1000000 := by
      have h1 : qs.length = ((decP B).getD []).length := by rw [← hq5, List.length_map]
      have := decP_len B
      omega
    have HC : Hid (∀ W, Kept [] w6 W → Calls Try.prog 24 #[.slice a5 qs.length c5, .slice a6 qs'.length c6] W fun e w' => e = .returned (.bool true) ∧ Kept [] W w') := fun W k => by
      have := sameAll24 (hO5'.kept0 k).row (hO5'.kept0 k).vals (hO6.kept0 k).row (hO6.kept0 k).vals hln hal
      rwa [decide_eq_true hqq] at this
    have HS : Hid (∀ W, Kept [] w6 W → ((convert 29 9 v3).run Try.prog W = .ok (Sv PB) W ∧ (convert 29 9 v4).run Try.prog W = .ok (Sv PB) W)) := fun W k => ⟨string_of (P := Try.prog) 29 5 Try.underlying29 9 Try.underlying5 Try.underlying9 v3 PB W (((r3.kept k5 (by simp)).kept k6 (by simp)).kept k (by simp)), string_of (P := Try.prog) 29 5 Try.underlying29 9 Try.underlying5 Try.underlying9 v4 PB W (((r4.kept k5 (by simp)).kept k6 (by simp)).kept k (by simp))⟩
    obtain ⟨hs3, hs4⟩ := HS.out _ (Kept.refl [] w6)
    clear r3 r4 hO3 hO4 hO5 hO6 hO5' hqq hal hln hq5 hq6
    go_wp2_with fail
    refine (HC.out _ (Kept.refl [] w6)).mono ?_
    rintro e w7 ⟨rfl, k7⟩
    go_wp2_with fail
    go_ret
    exact ⟨rfl, k06.trans k7 (by simp)⟩
end
end Go.Proofs.Ytkcgknbnoegpdaa
