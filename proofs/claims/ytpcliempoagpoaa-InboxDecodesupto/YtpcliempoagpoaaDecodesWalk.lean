/-
  InboxDecodes: the walk.
-/
import Derived.Test.YtpcliempoagpoaaPlaysWalk
namespace Go.Proofs.Ytpcliempoagpoaa
open Go.RowKit
set_option linter.unusedVariables false
theorem packB_congr {a b : List Lq} (h : a.map (·.x) = b.map (·.x)) : packB a = packB b := by
  have e : ∀ l : List Lq, packB l = if (l.map (·.x)).all Lt.formed = true then enc (l.map (·.x)).length ++ encT (l.map (·.x)) else [] := fun l => by
    unfold packB allF encA encT
    rw [List.all_map, List.length_map, List.flatMap_map]
    rfl
  rw [e, e, h]
theorem decB_pack {l : List Lq} (hg : ∀ q ∈ l, q.x.ok ∧ q.x.formed = true) (h8 : l.length ≤ 8) : decB (packB l) = some (l.map (·.x)) ∧ (packB l).length ≤ 3000000 := by
  have hf : allF l = true := by unfold allF; rw [List.all_eq_true]; exact fun q hq => (hg q hq).2
  have h1 := decP_pack l (fun q hq => (hg q hq).1) (fun q hq => (hg q hq).2) (by omega)
  have h2 := encA_len l (fun q hq => (hg q hq).2)
  have h3 := enc_length l.length
  unfold packB
  rw [if_pos hf]
  refine ⟨?_, by rw [List.length_append]; omega⟩
  unfold decB
  rw [h1, Option.bind_some, if_pos (by rw [List.length_map]; exact h8)]
section
variable {w : World}
set_option maxRecDepth 100000 in
set_option maxHeartbeats 2000000 in
theorem decodes_walk {a : Option Addr} {n c : Nat} {l : List Oq} (hr : RowO w (.slice a n c) l) (hv : ∀ o ∈ l, ReadsJ w o.q.sl o.q.x.args ∧ o.q.x.ok) (vb : Value) (B : List UInt8) (hB : Reads w vb B) (hin : Inside w vb) (hBl : B.length ≤ 3000000) :
    Calls Try.prog 4 #[.slice a n c, vb] w fun e w' => e = .returned (.bool true) ∧ Kept [] w w' := by
  obtain ⟨hn, hc1, hc2⟩ := hr.bound
  have HR := Hid.mk hr
  have HV := Hid.mk hv
  have HN := Hid.mk hn
  have HBB := Hid.mk hB
  have HI := Hid.mk hin
  clear hr hv hn hB hin
  go_enter Try.func4, Try.ntmps4
  go_wp2_with fail
  refine awake8.mono ?_
  rintro e w1 ⟨rfl, k1⟩
  go_wp2_with fail
  refine (few9 (HR.out.kept k1 (by simp))).mono ?_
  rintro e w2 ⟨fb, rfl, hfew, k2⟩
  have k02 := k1.trans k2 (by simp)
  cases fb with
  | false =>
    go_wp2_with fail
    refine awake8.mono ?_
    rintro e w3 ⟨rfl, k3⟩
    go_wp2_with fail
    go_ret
    exact ⟨rfl, k02.trans k3 (by simp)⟩
  | true =>
    have HFQ := Hid.mk (hfew rfl)
    have hnl : n ≤ 301 := by have := HFQ.out.1; have := HN.out; omega
    clear hfew
    go_wp2_with fail
    refine new10.mono ?_
    rintro e w3 ⟨rfl, hB3, k3, -⟩
    have k03 := k02.trans k3 (by simp)
    go_wp2_with fail
    have k4 := (Kept.refl [] w3).alloc (.cells #[.slice none 0 0] 30)
    have H0 : Hid (Both w (w3.alloc (.cells #[.slice none 0 0] 30)) w2.heap.size w3.heap.size) := ⟨[], [], _, hB3.kept0 k4, ⟨heap_alloc_new w3 _, OwnL.nil w _, k03.size⟩, rfl, k02.size, k03.trans k4 (by simp)⟩
    generalize w3.alloc (.cells #[.slice none 0 0] 30) = W4 at H0 ⊢
    generalize w2.heap.size = p at H0 ⊢
    generalize w3.heap.size = pf at H0 ⊢
    clear hB3 k4 k03 k3 k02 k2 k1
    go_loopw [29] (fun i wr => ∃ (j : Nat), i = .int .i64 (j : Int) ∧ j ≤ n ∧ Hid (Both w wr p pf)) (fun i _ => n - (intOf i).toNat)
    case atStart => exact ⟨0, rfl, by omega, H0⟩
    case round =>
      clear H0
      obtain ⟨j, rfl, hj, hH⟩ := hrel
      by_cases hlt : j < n
      · have hjI : (j : Int) < (n : Int) := by omega
        obtain ⟨op, ho⟩ : ∃ o, l[j]? = some o := ⟨_, List.getElem?_eq_getElem (by have := HN.out; omega)⟩
        have hom := List.mem_of_getElem? ho
        obtain ⟨b, o0, rfl, r0, r1, r2, r3, r4⟩ := HR.out.at ho
        obtain ⟨qs, ms, v, hB, hF, hm, hp, kk⟩ := hH.out
        have d1 := kk.cell_eq r1
        have d2 := kk.cell_eq r2
        have d3 := kk.cell_eq r3
        have d4 := kk.cell_eq r4
        have HRC := Hid.mk (And.intro r1 (And.intro r2 (And.intro r3 r4)))
        have h8 := hB.len
        have hml : qs.length = ms.length := by simpa using congrArg List.length hm
        have hx := (HV.out op hom).1
        have hxok := (HV.out op hom).2
        have H11 := Hid.mk (push11 op.q.x op.q.ad op.q.cap hB (hx.kept kk (by simp)) hxok)
        have HBF : Hid (IsB wr p qs ∧ IsF w wr pf v ms ∧ qs.map (·.x) = ms.map (·.x) ∧ Kept [] w wr ∧ ms.length ≤ 8 ∧ ReadsJ w op.q.sl op.q.x.args) := ⟨hB, hF, hm, kk, by omega, hx⟩
        clear r0 r1 r2 r3 r4 ho hH hB hF hm kk h8 hml hx hxok
        go_wp2_with fail
        refine H11.out.mono ?_
        rintro e w5 ⟨qs5, rfl, hB5, hm5, k5, -⟩
        obtain ⟨hB, hF, hm, kk, h8, hx⟩ := HBF.out
        have hF5 := hF.besides hB k5
        have kk5 : Kept [] w w5 := kk.trans k5 (by simp; omega)
        have H12 := Hid.mk (rpush12 op.q.x op.q.ad op.q.cap hF5 h8 (hx.kept kk5 (by simp)) kk5.size)
        have e1 := kk5.cell_eq HRC.out.1
        have e2 := kk5.cell_eq HRC.out.2.1
        have e3 := kk5.cell_eq HRC.out.2.2.1
        have e4 := kk5.cell_eq HRC.out.2.2.2
        have HH5 : Hid (IsB w5 p qs5 ∧ IsF w w5 pf v ms ∧ qs5.map (·.x) = pushL (ms.map (·.x)) op.q.x ∧ Kept [] w w5) := ⟨hB5, hF5, by rw [hm5, hm], kk5⟩
        generalize pushE qs.length op.q.x = E1
        clear d1 d2 d3 d4 hB hF hm kk h8 hx hF5 kk5 hB5 hm5 k5 HBF H11
        go_wp2_with fail
        refine H12.out.mono ?_
        rintro e w6 ⟨rfl, v6, ms6, hF6, hm6, k6⟩
        obtain ⟨hB5, hF5, hm5, kk5⟩ := HH5.out
        have H6 : Hid (Both w w6 p pf) := ⟨qs5, ms6, v6, hB5.besides hF5 k6, hF6, by rw [hm5, hm6], hp, kk5.trans k6 (fun y hy => by rcases mem_foot.1 hy with h | h; exact .inr (by have := hF5.fr; omega); exact .inr (hF5.own.fr y h))⟩
        generalize pushE ms.length op.q.x = E2
        clear e1 e2 e3 e4 hB5 hF5 hm5 kk5 hF6 hm6 k6 HH5 H12
        go_wp2_with fail
        go_roundw
        case rel => exact ⟨j + 1, by go_num, by omega, H6⟩
        case measure => simp [intOf]; omega
      · obtain rfl : j = n := by omega
        obtain ⟨qs, ms, v, hB, hF, hm, hp, kk⟩ := hH.out
        have h8 := hB.len
        have hml : qs.length = ms.length := by simpa using congrArg List.length hm
        have hgood : ∀ q ∈ ms, q.x.ok ∧ q.x.formed = true := fun q hq => by
          have hm' : q.x ∈ qs.map (·.x) := by rw [hm]; exact List.mem_map.2 ⟨q, hq, rfl⟩
          obtain ⟨y, hy, hyx⟩ := List.mem_map.1 hm'
          rw [← hyx]
          exact hB.good y hy
        obtain ⟨hdec, hpl⟩ := decB_pack hgood (by omega)
        obtain ⟨av, cv, rfl, hv1, hv2⟩ := hF.own.row.form
        have hc := cell_of_one hF.box
        have H17 := Hid.mk (pack21 hF.own.row hF.own.vals (fun q hq => (hgood q hq).1) (by omega))
        have hpe := packB_congr hm
        have HH : Hid (IsB wr p qs ∧ IsF w wr pf (.slice av ms.length cv) ms ∧ qs.map (·.x) = ms.map (·.x) ∧ Kept [] w wr) := ⟨hB, hF, hm, kk⟩
        have H18 : ∀ W, Kept [] wr W → Calls Try.prog 18 #[.pointer (some ⟨p, 0, none⟩)] W fun e w' => ∃ v, e = .returned v ∧ Owns 5 w' v (packB ms) ∧ Kept [] W w' ∧ Fresh W v := fun W k => by
          have := encode18 (hB.kept0 k)
          rw [hpe] at this
          exact this
        generalize packB ms = PB at hdec hpl H17 H18
        have HDEC := Hid.mk hdec
        have HPL := Hid.mk hpl
        have HENC := Hid.mk H18
        clear hB hF hm kk h8 hml hgood hdec hpl hpe hH H18
        generalize packE ms = PE at H17
        go_wp2_with fail
        refine H17.out.mono ?_
        rintro e w5 ⟨v5, rfl, hO5, k5, hf5⟩
        go_wp2_with fail
        have kd := k5.drew
        have hr5 : Reads w5.drew v5 PB := hO5.reads.kept (Kept.refl [] w5).drew (by simp)
        have HS : Hid (∀ W, Kept [] w5.drew W → (convert 47 9 v5).run Try.prog W = .ok (Sv PB) W) := fun W k => string_of (P := Try.prog) 47 5 Try.underlying47 9 Try.underlying5 Try.underlying9 v5 PB W (hr5.kept k (by simp))
        have S0 := HS.out _ (Kept.refl [] _)
        have H18 := Hid.mk (HENC.out _ kd)
        have HR5 := Hid.mk hr5
        have HKD := Hid.mk kd
        clear hO5 k5 hf5 hr5 kd hc H17 HENC
        refine wp_region_held_drew (S := fun w' => (convert 47 9 v5).run Try.prog w' = .ok (Sv PB) w') (by kernel_rfl) S0 (fun _ => ?_)
        refine wpAnyH_take (i := 0) (v := .pointer (some ⟨p, 0, none⟩)) rfl (by kernel_rfl) (by kernel_rfl) (by kernel_rfl) (fun _ _ _ h => h) (Or.inl ⟨by rfl, fun w hS => by have hS' : (convert 47 9 v5).run Try.prog w = .ok (Sv PB) w := hS; go_simp⟩) S0 ?_
        go_simp
        refine wpAnyH_take (i := 3) (v := v5) rfl (by kernel_rfl) (by kernel_rfl) (by kernel_rfl) (fun _ _ _ h => h) (Or.inl ⟨by rfl, fun w hS => by have hS' : (convert 47 9 v5).run Try.prog w = .ok (Sv PB) w := hS; go_simp⟩) S0 ?_
        go_simp
        refine wpAnyH_take (i := 4) (v := Sv PB) rfl (by kernel_rfl) (by kernel_rfl) (by kernel_rfl) (fun _ _ _ h => h) (Or.inl ⟨by rfl, fun w hS => by have hS' : (convert 47 9 v5).run Try.prog w = .ok (Sv PB) w := hS; go_simp⟩) S0 ?_
        go_simp
        refine wpAnyH_ready (rs := [1]) (by kernel_rfl) (by simp) (AllReadyH.cons rfl (fun K hK => ?_) AllReadyH.nil)
        go_simp
        refine (H18.out).mono ?_
        rintro e w6 ⟨v6, rfl, hO6, k6, hf6⟩
        have S6 := HS.out _ k6
        have hs6 := string_of (P := Try.prog) 47 5 Try.underlying47 9 Try.underlying5 Try.underlying9 v6 PB w6 hO6.reads
        refine hK.out _ _ S6 (fun _ => ?_)
        clear hK K
        go_simp
        refine wpAnyH_ready (rs := [2]) (by kernel_rfl) (by simp) (AllReadyH.cons rfl (fun K hK => ?_) AllReadyH.nil)
        go_simp
        refine hK.out _ _ S6 (fun _ => ?_)
        clear hK K
        go_simp
        refine wpAnyH_take (i := 5) (v := .bool false) rfl (by kernel_rfl) (by kernel_rfl) (by kernel_rfl) (fun _ _ _ h => h) (Or.inl ⟨by rfl, fun w hS => by have hS' : (convert 47 9 v5).run Try.prog w = .ok (Sv PB) w := hS; go_simp⟩) S6 ?_
        go_simp
        refine wpAnyH_done (by kernel_rfl) ?_ _
        clear S0 S6 hs6 hO6 hf6
        have kk6 : Kept [] wr w6 := HKD.out.trans k6 (by simp)
        have hr6 := HR5.out.kept k6 (by simp)
        have H19 := Hid.mk (decode19 v5 PB hr6 HPL.out)
        have HK6 := Hid.mk kk6
        clear k6 kk6 hr6 HKD HR5 H18 HS
        go_wp2_with fail
        refine H19.out.mono ?_
        rintro e w7 hb7
        rcases hb7 with ⟨hd, -, -⟩ | ⟨p7, qs7, hd7, rfl, hB7, hp7, hf7, k7⟩
        · rw [HDEC.out] at hd; cases hd
        · have hm7 : qs7.map (·.x) = ms.map (·.x) := by rw [HDEC.out] at hd7; injection hd7 with h; exact h.symm
          have kk7 : Kept [] wr w7 := HK6.out.trans k7 (by simp)
          have k07 : Kept [] w w7 := HH.out.2.2.2.trans kk7 (by simp)
          have H19b := Hid.mk (decode19 vb B (HBB.out.kept k07 (by simp)) hBl)
          have H7 : Hid (IsB w7 p7 qs7 ∧ qs7.map (·.x) = ms.map (·.x) ∧ Kept [] wr w7 ∧ Kept [] w w7) := ⟨hB7, hm7, kk7, k07⟩
          clear hd7 hB7 hp7 hf7 k7 hm7 kk7 k07 H19 HK6
          go_wp2_with fail
          refine H19b.out.mono ?_
          rintro e w8 hb8
          have hk8 : Kept [] w7 w8 := by
            rcases hb8 with ⟨-, -, k⟩ | ⟨_, _, -, -, -, -, -, k⟩
            · exact k
            · exact k
          have k08 : Kept [] w w8 := H7.out.2.2.2.trans hk8 (by simp)
          have H20 := Hid.mk (rbox20 vb B (HBB.out.kept k08 (by simp)) (fun g hg => by have := HI.out g hg; have := k08.size; omega) hBl)
          have H8 : Hid (IsB w8 p7 qs7 ∧ Kept [] w7 w8 ∧ Kept [] w w8) := ⟨H7.out.1.kept0 hk8, hk8, k08⟩
          clear hk8 k08 H19b
          cases hdb : decB B with
          | none =>
            rcases hb8 with ⟨-, rfl, -⟩ | ⟨_, _, h, -⟩
            · go_wp2_with fail
              refine H20.out.mono ?_
              rintro e w9 hb9
              rcases hb9 with ⟨-, rfl, k9⟩ | ⟨_, _, _, h, -⟩
              · have hF9 := ((HH.out.2.1.kept0 H7.out.2.2.1).kept0 H8.out.2.1).kept0 k9
                have HS9 := Hid.mk (same16_any (H8.out.1.kept0 k9) hF9 H7.out.2.1)
                have HK9 := Hid.mk (H8.out.2.2.trans k9 (by simp))
                clear hF9 k9 H20
                go_wp2_with fail
                refine HS9.out.mono ?_
                rintro e w10 ⟨rfl, k10⟩
                go_wp2_with fail
                go_ret
                exact ⟨rfl, HK9.out.trans k10 (by simp)⟩
              · rw [hdb] at h; cases h
            · rw [hdb] at h; cases h
          | some xs =>
            rcases hb8 with ⟨h, -, -⟩ | ⟨p8, qs8, hd8, rfl, hB8, hp8, hf8, -⟩
            · rw [hdb] at h; cases h
            · have hm8 : qs8.map (·.x) = xs := by rw [hdb] at hd8; injection hd8 with h; exact h.symm
              clear hd8 hp8 hf8
              have HB8 := Hid.mk hB8
              clear hB8
              go_wp2_with fail
              refine H20.out.mono ?_
              rintro e w9 hb9
              rcases hb9 with ⟨h, -, -⟩ | ⟨pf9, v9, ms9, hd9, rfl, hF9b, k9⟩
              · rw [hdb] at h; cases h
              · have hm9 : qs8.map (·.x) = ms9.map (·.x) := by rw [hdb] at hd9; injection hd9 with h; rw [hm8, h]
                have hF9 := ((HH.out.2.1.kept0 H7.out.2.2.1).kept0 H8.out.2.1).kept0 k9
                have HS9 := Hid.mk (same16_any (H8.out.1.kept0 k9) hF9 H7.out.2.1)
                have HK9 := Hid.mk (H8.out.2.2.trans k9 (by simp))
                have HB9 := Hid.mk (HB8.out.kept0 k9)
                have HF9 := Hid.mk hF9b
                have HM9 := Hid.mk hm9
                clear hF9 k9 H20 hF9b hm9 hd9 hm8
                go_wp2_with fail
                refine HS9.out.mono ?_
                rintro e w10 ⟨rfl, k10⟩
                have HS10 := Hid.mk (same16_any (HB9.out.kept0 k10) (HF9.out.kept0 k10) HM9.out)
                go_wp2_with fail
                refine HS10.out.mono ?_
                rintro e w11 ⟨rfl, k11⟩
                go_wp2_with fail
                go_ret
                exact ⟨rfl, (HK9.out.trans k10 (by simp)).trans k11 (by simp)⟩
end
end Go.Proofs.Ytpcliempoagpoaa
