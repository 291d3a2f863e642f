/-
  LogNil answers true, of bytes that are some: one of the ways of its area.
-/
import Derived.Test.YtdcjaopmfccgbaaNilTwo
namespace Go.Proofs.Ytdcjaopmfccgbaa
open Go.RowKit
set_option linter.unusedVariables false

set_option maxRecDepth 100000 in
set_option maxHeartbeats 2000000 in
theorem nil_someE (fr ct : Int) (a : Option Addr) (n cap : Nat) (l : List UInt8) (w : World) (hr : Reads w (.slice a n cap) l) (hl : l.length = n) (hn0 : 0 < n) (hn : n ≤ 2000) (h1 : -9223372036854775808 ≤ fr) (h2 : fr < 9223372036854775808) (h3 : -9223372036854775808 ≤ ct) (h4 : ct < 9223372036854775808) (hcase : (1 ≤ ct ∧ ct ≤ 10 ∧ 0 ≤ fr ∧ 10 - ct < fr)) : Calls Try.prog 6 #[.int .i64 fr, .int .i64 ct, .slice a n cap] w fun e w' => e = .returned (.bool true) ∧ Kept [] w w' := by
  have hn2 : ¬ (2000 : Int) < (n : Int) := by omega
  have HR := Hid.mk hr
  have HN := Hid.mk hl
  have HV : Hid (∀ g, (Value.slice a n cap).ownBlock = some g → g < w.heap.size) := fun g hg => by
    obtain ⟨k, h1, h2⟩ := hr.lt (by intro e; subst e; simp at hl; omega)
    rw [h1] at hg
    injection hg with hg
    omega
  clear hr hl
  go_enter Try.func6, Try.ntmps6
  go_wp2_with fail
  refine (awake_any w).mono ?_
  rintro e w0 ⟨rfl, k0⟩
  have hnew : Calls Try.prog 9 #[.int .i64 10] w0 fun e w' => ∃ p, e = .returned (.pointer (some ⟨p, 0, none⟩)) ∧ ∃ F, IsD w' F p ⟨10, [], -1, false⟩ ∧ Kept [] w0 w' ∧ ∀ x ∈ F, w0.heap.size ≤ x := new_nb 10 (by omega) w0
  go_wp2_with fail
  refine hnew.mono ?_
  rintro e w1 ⟨q, rfl, F, hD1, k1, nF⟩
  have kk1 := k0.trans k1 (by simp)
  have hNF : ∀ x ∈ F, w.heap.size ≤ x := fun x hx => Nat.le_trans k0.size (nF x hx)
  clear hnew k0 k1 nF
  have harg := fun h => open_arg hD1 fr ct 1 h2 h
  rw [show ((1 : Nat) : Int) = 1 from rfl] at harg
  obtain ⟨g1, g2, g3, g4⟩ := hcase
  have hD := hD1
  have KK := kk1
  have hop := harg (by show fr < 0 ∨ ct < 1 ∨ ((10 : Nat) : Int) - fr < ct; omega)
  clear harg hD1 kk1
  have n4 : ¬ fr ≤ 10 - ct := by omega
  go_wp2_with fail
  refine hop.mono ?_
  rintro e W ⟨rfl, rfl⟩
  clear hop
  obtain ⟨W, hWe⟩ : ∃ W, W = w1 := ⟨_, rfl⟩
  subst hWe
  have hon : Calls Try.prog 10 #[.pointer none, .int .i64 0, .int .i64 1, .int .u64 1] W fun e w' => e = .returned (.tuple #[.pointer none, .int .i64 1]) ∧ W = w' := open_nil 0 1 1 (by omega) (by omega) (by omega) W
  have hop2 : Calls Try.prog 10 #[.pointer (some ⟨q, 0, none⟩), .int .i64 0, .int .i64 10, .int .u64 3] W fun e w' => ∃ p, e = .returned (.tuple #[.pointer (some ⟨p, 0, none⟩), .int .i64 0]) ∧ ∃ H, Lg w' H q ⟨10, [], -1, false⟩ p 0 10 3 [] false ∧ Kept [] W w' ∧ NewF W F H := open_new (fr := 0) (ct := 10) (ep := 3) hD (by omega) (by omega) (by omega) (by omega)
  clear hD
  go_wp2_with fail
  refine hon.mono ?_
  rintro e W2 ⟨rfl, rfl⟩
  clear hon
  go_wp2_with fail
  refine (append_nil _ _).mono ?_
  rintro e W2 ⟨rfl, rfl⟩
  go_wp2_with fail
  refine (room_nil _).mono ?_
  rintro e W2 ⟨rfl, rfl⟩
  go_wp2_with fail
  refine (units_nil _).mono ?_
  rintro e W2 ⟨rfl, rfl⟩
  go_wp2_with fail
  refine (reset_nil _ _).mono ?_
  rintro e W2 ⟨rfl, rfl⟩
  go_wp2_with fail
  refine hop2.mono ?_
  rintro e w2 ⟨p, rfl, H, hL, k2, nH⟩
  have kk2 := KK.trans k2 (by simp)
  have nH2 : ∀ x ∈ H, w.heap.size ≤ x := fun x hx => by
    rcases nH x hx with h | h
    · exact hNF x h
    · exact Nat.le_trans KK.size h
  clear hop2 k2 nH KK hNF
  have hr2 := HR.out.kept kk2 (by simp)
  have hv2 : ∀ g, (Value.slice a n cap).ownBlock = some g → g ∉ H := fun g hg hm => by have := HV.out g hg; have := nH2 g hm; omega
  have hap := append_any hL a n cap l hr2 HN.out hv2 hn0 (by omega) (by show 0 + bks n ≤ 10; unfold bks; omega) rfl (by simp)
  clear hL hr2 hv2
  go_wp2_with fail
  refine hap.mono ?_
  rintro e w3 (⟨rfl, -, H3, hL3, k3, n3⟩ | ⟨j, _, hj, _⟩)
  case inr => exact absurd hj (by show ¬ ((-1 : Int) = _); omega)
  have kk3 : Kept [] w w3 := kk2.trans k3 (fun x hx => .inr (nH2 x hx))
  have nH3 : ∀ x ∈ H3, x < w3.heap.size := hL3.lt
  rw [List.nil_append] at hL3
  have hun := units_lg hL3
  rw [show [l].length = 1 from rfl] at hun
  clear hap k3 n3 kk2 nH2
  have HL3 := Hid.mk hL3
  clear hL3
  go_wp2_with fail
  refine hun.mono ?_
  rintro e w4 ⟨g, rfl, hU, k4, hg⟩
  obtain ⟨au, cu, hcu, hOu, hFu, hgu⟩ := hU.at 0 l rfl
  rw [HN.out] at hcu hOu hFu hgu
  have hRu : RowOf w4 (.slice au n cu) n isByte := by have := RowOf.bytes hOu; rw [HN.out] at this; exact this
  have hglt := hU.lt
  have kk4 := Hid.mk (kk3.trans k4 (by simp))
  have HL4 : Hid (Lg w4 H3 q _ p 0 10 3 [l] false) := HL3.out.kept k4 (by simp)
  obtain ⟨S, hS⟩ : ∃ S, Hid ((Value.slice au n cu).ownBlock.toList = S) := ⟨_, rfl⟩
  have hgS : g ∉ S := by rw [← hS.out, Option.mem_toList]; exact hgu
  have HSn : Hid (∀ x ∈ S, w3.heap.size ≤ x) := fun x hx => by rw [← hS.out, Option.mem_toList] at hx; exact hFu x hx
  obtain ⟨ax, cx, hve, hc1, hc2, -⟩ := id hRu
  injection hve with e1 e2 e3
  subst e1 e3
  clear hun hU hOu hFu hgu k4 HL3 e2
  go_wp2_with fail
  go_loopw [113] (fun i wr => ∃ j : Nat, j ≤ 1 ∧ i = .int .i64 (j : Int) ∧ Kept S w4 wr ∧ RowOf wr (.slice au n cu) n isByte) (fun i _ => 1 - (intOf i).toNat)
  case atStart => exact ⟨0, by omega, rfl, Kept.refl _ _, hRu⟩
  case round =>
    clear hRu
    obtain ⟨j, hj, rfl, KS, hRr⟩ := hrel
    have hcr : wr.cell? ⟨g, 0, none⟩ = some (.slice au n cu) := by rw [KS.cell hglt hgS]; exact hcu
    rcases Nat.lt_or_ge j 1 with hlt | hge
    · have hj0 : j = 0 := by omega
      subst hj0
      rw [show ((0 : Nat) : Int) = 0 from rfl]
      go_wp2_with fail
      go_loopw [121] (fun i wr2 => ∃ k : Nat, k ≤ n ∧ i = .int .i64 (k : Int) ∧ Kept S w4 wr2 ∧ RowOf wr2 (.slice au n cu) n isByte) (fun i _ => n - (intOf i).toNat)
      case atStart => exact ⟨0, Nat.zero_le _, rfl, KS, hRr⟩
      case round =>
        clear KS hRr hcr
        obtain ⟨k, hk, rfl, KS, hRr⟩ := hrel
        have hcr : wr.cell? ⟨g, 0, none⟩ = some (.slice au n cu) := by rw [KS.cell hglt hgS]; exact hcu
        by_cases hkn : k < n
        · have hkn2 : (k : Int) < (n : Int) := by omega
          obtain ⟨a', cap', hv, -, -, hc⟩ := id hRr
          injection hv with e1 e2 e3
          subst e1 e3
          obtain ⟨gb, rfl, hcc⟩ := hc (by omega)
          obtain ⟨z, ⟨x, hx0, hx1, rfl⟩, hcz, hfz⟩ := hcc k hkn
          have hgb : gb ∈ S := by rw [← hS.out]; simp [Value.ownBlock]
          have hS2 := fun (y : Int) (h0 : 0 ≤ y) (h1 : y ≤ 255) => hRr.set (g := gb) (j := k) rfl hkn (z := .int .u8 y) ⟨y, h0, h1, rfl⟩
          have hK2 := fun (y : Int) => KS.setCell (p := ⟨gb, k, none⟩) (.inl hgb) (.int .u8 y)
          clear hc hcc hRr KS e2
          go_wp2_with fail
          exact ⟨⟨k + 1, by omega, by go_num, hK2 _, hS2 _ (by omega) (by omega)⟩, by simp [intOf]; omega⟩
        · have hkn2 : ¬ (k : Int) < (n : Int) := by omega
          have KS' := Hid.mk KS
          have hR' := Hid.mk hRr
          clear KS hRr
          go_wp2_with fail
          exact ⟨⟨1, by omega, rfl, KS'.out, hR'.out⟩, by simp [intOf]⟩
    · have hj1 : j = 1 := by omega
      subst hj1
      rw [show ((1 : Nat) : Int) = 1 from rfl]
      have hLr := HL4.out.kept KS (fun x hx hm => by have := nH3 x hx; have := HSn.out x hm; omega)
      have kkr : Kept [] w wr := kk4.out.trans KS (fun x hx => .inr (by have := HSn.out x hx; have := kk3.size; omega))
      have hfin := two_units HR.out (hLr.kept (S := []) ((Kept.refl [] wr).drew) (by simp)) kkr.drew HN.out
      have hfin0 := two_units HR.out hLr kkr HN.out
      have hz1 := str35 _ _ wr.drew (HR.out.kept (kkr.drew) (by simp))
      have hz0 := str35 _ _ wr (HR.out.kept kkr (by simp))
      generalize (⟨l.toArray⟩ : ByteArray) = T at hfin hfin0 hz1 hz0
      have hne : ((n : Int) == 0) = false := by simp; omega
      clear hRr hLr KS kkr HL4 hcr hcu HR HSn kk4 hS
      go_wp2_with fail
      go_region_with (first | (go_at_call 19; refine hV2.mono ?_; rintro e w9 ⟨g2, a2, c2, rfl, hz4, hz5, hz6, K9⟩) | (go_at_call 19; refine hfin.mono ?_; rintro e w8 ⟨g1, rfl, hz3, hV2⟩) | (go_at_call 19; refine hfin0.mono ?_; rintro e w8 ⟨g1, rfl, hz3, hV2⟩))
      all_goals
        go_wp2
        go_ret
        exact ⟨rfl, K9⟩
end Go.Proofs.Ytdcjaopmfccgbaa
