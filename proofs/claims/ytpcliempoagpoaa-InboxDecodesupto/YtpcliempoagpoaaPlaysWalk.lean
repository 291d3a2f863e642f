/-
  InboxPlays: the walk.
-/
import Derived.Test.YtpcliempoagpoaaIs
namespace Go.Proofs.Ytpcliempoagpoaa
open Go.RowKit
set_option linter.unusedVariables false
/-- Both inboxes, side by side. -/
def Both (w wr : World) (p pf : Nat) : Prop := ∃ qs ms v, IsB wr p qs ∧ IsF w wr pf v ms ∧ qs.map (·.x) = ms.map (·.x) ∧ w.heap.size ≤ p ∧ Kept [] w wr
section
variable {w : World}
set_option maxRecDepth 100000 in
set_option maxHeartbeats 2000000 in
theorem plays_new {a : Option Addr} {n c : Nat} {l : List Oq} (hr : RowO w (.slice a n c) l) (hv : ∀ o ∈ l, ReadsJ w o.q.sl o.q.x.args ∧ o.q.x.ok) : Calls Try.prog 3 #[.slice a n c, .bool false] w fun e w' => e = .returned (.bool true) ∧ Kept [] w w' := by
  obtain ⟨hn, hc1, hc2⟩ := hr.bound
  have HR := Hid.mk hr
  have HV := Hid.mk hv
  have HN := Hid.mk hn
  clear hr hv hn
  go_enter Try.func3, Try.ntmps3
  go_wp2_with fail
  refine awake8.mono ?_
  rintro e w1 ⟨rfl, k1⟩
  go_wp2_with fail
  refine (few9 (HR.out.kept k1 (by simp))).mono ?_
  rintro e w2 ⟨fb, rfl, hfew, k2⟩
  have k02 := k1.trans k2 (by simp)
  cases fb with
  | false =>
    go_wp2_with fail
    refine awake8.mono ?_
    rintro e w3 ⟨rfl, k3⟩
    go_wp2_with fail
    go_ret
    exact ⟨rfl, k02.trans k3 (by simp)⟩
  | true =>
    have HFQ := Hid.mk (hfew rfl)
    have hnl : n ≤ 301 := by have := HFQ.out.1; have := HN.out; omega
    clear hfew
    go_wp2_with fail
    refine new10.mono ?_
    rintro e w3 ⟨rfl, hB3, k3, -⟩
    have k03 := k02.trans k3 (by simp)
    go_wp2_with fail
    have k4 := (Kept.refl [] w3).alloc (.cells #[.slice none 0 0] 30)
    have H0 : Hid (Both w (w3.alloc (.cells #[.slice none 0 0] 30)) w2.heap.size w3.heap.size) := ⟨[], [], _, hB3.kept0 k4, ⟨heap_alloc_new w3 _, OwnL.nil w _, k03.size⟩, rfl, k02.size, k03.trans k4 (by simp)⟩
    generalize w3.alloc (.cells #[.slice none 0 0] 30) = W4 at H0 ⊢
    generalize w2.heap.size = p at H0 ⊢
    generalize w3.heap.size = pf at H0 ⊢
    clear hB3 k4 k03 k3 k02 k2 k1
    go_loopw [28] (fun i wr => ∃ (j : Nat), i = .int .i64 (j : Int) ∧ j ≤ n ∧ Hid (Both w wr p pf)) (fun i _ => n - (intOf i).toNat)
    case atStart => exact ⟨0, rfl, by omega, H0⟩
    case round =>
      clear H0
      obtain ⟨j, rfl, hj, hH⟩ := hrel
      by_cases hlt : j < n
      · have hjI : (j : Int) < (n : Int) := by omega
        obtain ⟨op, ho⟩ : ∃ o, l[j]? = some o := ⟨_, List.getElem?_eq_getElem (by have := HN.out; omega)⟩
        have hom := List.mem_of_getElem? ho
        obtain ⟨b, o0, rfl, r0, r1, r2, r3, r4⟩ := HR.out.at ho
        obtain ⟨qs, ms, v, hB, hF, hm, hp, kk⟩ := hH.out
        have d0 := kk.cell_eq r0
        have d1 := kk.cell_eq r1
        have d2 := kk.cell_eq r2
        have d3 := kk.cell_eq r3
        have d4 := kk.cell_eq r4
        have HRC := Hid.mk (And.intro r0 (And.intro r1 (And.intro r2 (And.intro r3 r4))))
        clear r0 r1 r2 r3 r4 ho hH
        by_cases h1 : op.kind = 1
        · as_aux_lemma =>
            have g1 : (op.kind == 1) = true := by simp [h1]
            have h8 := hB.len
            have hml : qs.length = ms.length := by simpa using congrArg List.length hm
            have hx := (HV.out op hom).1
            have hxok := (HV.out op hom).2
            have kd := kk.drew
            have HS : Hid (∀ W, Kept [] w W → (W.cell? ⟨b, o0 + j * 5 + 1, none⟩ = some (Sv op.q.x.fr) ∧ W.cell? ⟨b, o0 + j * 5 + 2, none⟩ = some (.int .u64 (op.q.x.ser : Int)) ∧ W.cell? ⟨b, o0 + j * 5 + 3, none⟩ = some (.int .i64 op.q.x.kind) ∧ W.cell? ⟨b, o0 + j * 5 + 4, none⟩ = some (.slice op.q.ad op.q.x.args.length op.q.cap))) := fun W k => ⟨k.cell_eq HRC.out.2.1, k.cell_eq HRC.out.2.2.1, k.cell_eq HRC.out.2.2.2.1, k.cell_eq HRC.out.2.2.2.2⟩
            have S0 := HS.out _ kd
            have hBd := hB.kept0 (Kept.refl [] wr).drew
            have hFd := hF.kept0 (Kept.refl [] wr).drew
            generalize hE : pushE qs.length op.q.x = E
            have H11 : Hid (Calls Try.prog 11 #[.pointer (some ⟨p, 0, none⟩), Lv op.q.x op.q.ad op.q.cap] wr.drew fun e w' => ∃ qs', e = .returned (.int .i64 E) ∧ IsB w' p qs' ∧ qs'.map (·.x) = pushL (qs.map (·.x)) op.q.x ∧ Kept [p] wr.drew w') := by
              refine (push11 op.q.x op.q.ad op.q.cap hBd (hx.kept kd (by simp)) hxok).mono ?_
              rintro e w' ⟨qs', rfl, i1, i2, i3, -⟩
              exact ⟨qs', by rw [hE], i1, i2, i3⟩
            have H12 : Hid (∀ W, IsF w W pf v ms → Kept [] w W → Calls Try.prog 12 #[.pointer (some ⟨pf, 0, none⟩), Lv op.q.x op.q.ad op.q.cap] W fun e w' => e = .returned (.int .i64 E) ∧ ∃ v' qs', IsF w w' pf v' qs' ∧ qs'.map (·.x) = pushL (ms.map (·.x)) op.q.x ∧ Kept (foot pf v) W w') := fun W i1 i2 => by
              have := rpush12 op.q.x op.q.ad op.q.cap i1 (by omega) (hx.kept i2 (by simp)) i2.size
              rw [← hml, hE] at this
              exact this
            have HBF : Hid (IsB wr.drew p qs ∧ IsF w wr.drew pf v ms ∧ qs.map (·.x) = ms.map (·.x) ∧ Kept [] w wr.drew) := ⟨hBd, hFd, hm, kd⟩
            have hEE : (E != E) = false := by simp
            have hj0 : (0 : Int) ≤ (j : Int) := by omega
            clear hB hF hm kk hBd hFd kd hx hxok hE h8 hml
            go_wp2_with fail
            clear d0 d1 d2 d3 d4
            go_region_held3 (fun W => W.cell? ⟨b, o0 + j * 5 + 1, none⟩ = some (Sv op.q.x.fr) ∧ W.cell? ⟨b, o0 + j * 5 + 2, none⟩ = some (.int .u64 (op.q.x.ser : Int)) ∧ W.cell? ⟨b, o0 + j * 5 + 3, none⟩ = some (.int .i64 op.q.x.kind) ∧ W.cell? ⟨b, o0 + j * 5 + 4, none⟩ = some (.slice op.q.ad op.q.x.args.length op.q.cap)) (first | exact S0 | exact S1 | exact S2) (first | (go_at_call 11; refine H11.out.mono ?_; rintro e w5 ⟨qs5, rfl, hB5, hm5, k5⟩; have hF5 := HBF.out.2.1.besides HBF.out.1 k5; have kk5 : Kept [] w w5 := HBF.out.2.2.2.trans k5 (by simp; omega); have S1 := HS.out _ kk5) | (go_at_call 12; refine (H12.out _ hF5 kk5).mono ?_; rintro e w6 ⟨rfl, v6, ms6, hF6, hm6', k6⟩; have hB6 := hB5.besides hF5 k6; have kk6 : Kept [] w w6 := kk5.trans k6 (fun y hy => by rcases mem_foot.1 hy with h | h; exact .inr (by have := hF5.fr; omega); exact .inr (hF5.own.fr y h)); have S2 := HS.out _ kk6))
            have hm6 : qs5.map (·.x) = ms6.map (·.x) := by rw [hm5, hm6', HBF.out.2.2.1]
            clear S0 S1 S2 hF5 hB5 hm5 hm6' k5 k6 kk5 H11 H12 HBF HS
            have hS6 := same16_any hB6 hF6 hm6
            have HS6 := Hid.mk hS6
            have HX6 : Hid (∀ W, Kept [] w6 W → Both w W p pf) := fun W k => ⟨_, _, _, hB6.kept0 k, hF6.kept0 k, hm6, hp, kk6.trans k (by simp)⟩
            clear hS6 hB6 hF6 hm6 kk6
            go_wp2_with fail
            refine HS6.out.mono ?_
            rintro e w9 ⟨rfl, k9⟩
            have H9 := Hid.mk (HX6.out _ k9)
            clear HX6 k9
            go_wp2_with fail
            go_roundw
            case rel => exact ⟨j + 1, by go_num, by omega, H9⟩
            case measure => simp [intOf]; omega
        · have g1 : (op.kind == 1) = false := by simp [h1]
          by_cases h2 : op.kind = 2
          · have g2 : (op.kind == 2) = true := by simp [h2]
            clear h1 h2 d1 d2 d3 d4
            cases ms with
            | nil => as_aux_lemma =>
              obtain rfl : qs = [] := by simpa using hm
              have HP := Hid.mk (pop13_none (w := wr) (p' := some ⟨p, 0, none⟩) (fun W k => first22 (hB.kept0 k)))
              have HBF : Hid (IsB wr p [] ∧ IsF w wr pf v [] ∧ Kept [] w wr) := ⟨hB, hF, kk⟩
              clear hB hF hm kk
              go_wp2_with fail
              refine HP.out.mono ?_
              rintro e w5 ⟨a5, c5, rfl, hO5, k5, hf5⟩
              obtain ⟨W5, e5, k5', hz5, hb5⟩ := box1 w5 (.cells #[.string { data := #[] }, .int .u64 0, .int .i64 0, .slice a5 0 c5] 34)
              have hF5 := (HBF.out.2.1.kept0 k5).kept0 k5'
              have HP5 := rpop14_none hF5
              have HB5 := (HBF.out.1.kept0 k5).kept0 k5'
              have hO5' := hO5.kept k5' (by simp)
              have kk5 := (HBF.out.2.2.trans k5 (by simp)).trans k5' (by simp)
              go_wp2_with fail
              try rw [e5]
              refine Calls.mono HP5 ?_
              rintro e w6 ⟨rfl, k6⟩
              obtain ⟨W6, e6, k6', hz6, hb6⟩ := box1 w6 (.cells #[.string { data := #[] }, .int .u64 0, .int .i64 0, .slice none 0 0] 34)
              have hb5' := k6'.keeps (k6.keeps hb5 (by simp)) (by simp)
              have hB6 := (HB5.kept0 k6).kept0 k6'
              have hF6 := (hF5.kept0 k6).kept0 k6'
              have kk6 := (kk5.trans k6 (by simp)).trans k6' (by simp)
              have hS5 := same16 ⟨[], 0, 0, []⟩ ⟨[], 0, 0, []⟩ a5 none c5 0 ((hO5'.kept k6 (by simp)).kept k6' (by simp)).reads (ReadsJ.nil W6) (by simp)
              rw [sameL_refl] at hS5
              obtain ⟨x0, x1, x2, x3⟩ := cells4 hb5'
              obtain ⟨y0, y1, y2, y3⟩ := cells4 hb6
              rw [← e6] at x0 x1 x2 x3 y0 y1 y2 y3
              have HE6 := Hid.mk e6
              have HH6 : Hid (IsB W6 p [] ∧ IsF w W6 pf v [] ∧ Kept [] w W6) := ⟨hB6, hF6, kk6⟩
              have HS5 := Hid.mk hS5
              clear hB6 hF6 kk6 e6 hS5 hb5' hb6 k6 k6' hz6 hF5 HB5 hO5' kk5 e5 k5 k5' hz5 hb5 hO5 hf5 HP HBF HP5
              go_wp2_with fail
              rw [HE6.out]
              refine HS5.out.mono ?_
              rintro e w7 ⟨rfl, k7⟩
              obtain ⟨i1, i2, i3⟩ := HH6.out
              have hB6 := i1.kept0 k7
              have hF6 := i2.kept0 k7
              have hm6 : ([] : List Lq).map (·.x) = ([] : List Lq).map (·.x) := rfl
              have kk6 := i3.trans k7 (by simp)
              clear x0 x1 x2 x3 y0 y1 y2 y3 i1 i2 i3 k7 HE6 HH6 HS5
              have hS6 := same16_any hB6 hF6 hm6
              have HS6 := Hid.mk hS6
              have HX6 : Hid (∀ W, Kept [] w7 W → Both w W p pf) := fun W k => ⟨_, _, _, hB6.kept0 k, hF6.kept0 k, hm6, hp, kk6.trans k (by simp)⟩
              clear hS6 hB6 hF6 hm6 kk6
              go_wp2_with fail
              refine HS6.out.mono ?_
              rintro e w9 ⟨rfl, k9⟩
              have H9 := Hid.mk (HX6.out _ k9)
              clear HX6 k9
              go_wp2_with fail
              go_roundw
              case rel => exact ⟨j + 1, by go_num, by omega, H9⟩
              case measure => simp [intOf]; omega
            | cons m mt => as_aux_lemma =>
              cases qs with
              | nil => simp at hm
              | cons q t =>
                rw [List.map_cons, List.map_cons] at hm
                injection hm with hqm htm
                have h8 := hB.len
                have hml : t.length = mt.length := by simpa using congrArg List.length htm
                rw [List.length_cons] at h8
                have hgd := formed_le (hB.good q (by simp)).2
                have HP := Hid.mk (pop13_some hB)
                have HBF : Hid (IsB wr p (q :: t) ∧ IsF w wr pf v (m :: mt) ∧ Kept [] w wr ∧ q.x = m.x ∧ t.map (·.x) = mt.map (·.x)) := ⟨hB, hF, kk, hqm, htm⟩
                clear hB hF hqm htm kk
                go_wp2_with fail
                refine HP.out.mono ?_
                rintro e w5 ⟨a5, c5, rfl, hO5, k5, hf5, hB5⟩
                obtain ⟨W5, e5, k5', hz5, hb5⟩ := box1 w5 (.cells #[Sv q.x.fr, .int .u64 (q.x.ser : Int), .int .i64 q.x.kind, .slice a5 q.x.args.length c5] 34)
                have hF5 := (HBF.out.2.1.besides HBF.out.1 k5).kept0 k5'
                have kk5 : Kept [] w W5 := (HBF.out.2.2.1.trans k5 (by simp; omega)).trans k5' (by simp)
                have HP5 := rpop14_some hF5 (by omega) kk5.size
                have hB5' := hB5.kept0 k5'
                have hO5' := hO5.kept k5' (by simp)
                go_wp2_with fail
                try rw [e5]
                refine Calls.mono HP5 ?_
                rintro e w6 ⟨rfl, v6, hF6', hO6, k6⟩
                obtain ⟨W6, e6, k6', hz6, hb6⟩ := box1 w6 (.cells #[Sv m.x.fr, .int .u64 (m.x.ser : Int), .int .i64 m.x.kind, .slice m.ad m.x.args.length m.cap] 34)
                have hb5' := k6'.keeps (k6.keeps hb5 (by simp; exact box_ne hb5 hF5.box (by decide))) (by simp)
                have hB6 := (hB5'.kept k6 (by simp; exact box_ne hB5'.box hF5.box (by decide)) (fun y hy g hg hm' => by simp at hm'; subst hm'; exact ownsJ_ne (hB5'.args y hy) hF5.box (by decide) hg)).kept0 k6'
                have hO7 := (hO5'.kept k6 (fun g hg hm' => by simp at hm'; subst hm'; exact ownsJ_ne hO5' hF5.box (by decide) hg)).kept k6' (by simp)
                have hF6 := hF6'.kept0 k6'
                have kk6 : Kept [] w W6 := (kk5.trans k6 (by simp; exact hF5.fr)).trans k6' (by simp)
                have hS5 := same16 q.x m.x a5 m.ad c5 m.cap hO7.reads (hO6.kept k6' (by simp)).reads (by omega)
                rw [(sameL_iff _ _).2 HBF.out.2.2.2.1] at hS5
                obtain ⟨x0, x1, x2, x3⟩ := cells4 hb5'
                obtain ⟨y0, y1, y2, y3⟩ := cells4 hb6
                rw [← e6] at x0 x1 x2 x3 y0 y1 y2 y3
                have HE6 := Hid.mk e6
                have HH6 : Hid (IsB W6 p t ∧ IsF w W6 pf v6 mt ∧ Kept [] w W6 ∧ t.map (·.x) = mt.map (·.x)) := ⟨hB6, hF6, kk6, HBF.out.2.2.2.2⟩
                have HS5 := Hid.mk hS5
                clear hB6 hF6 kk6 e6 hS5 hb5' hb6 k6 k6' hz6 hF5 hB5 hB5' hO5' kk5 e5 k5 k5' hz5 hb5 hO5 hf5 HP HBF HP5 hO7 hF6' hO6 h8 hml
                go_wp2_with fail
                rw [HE6.out]
                refine HS5.out.mono ?_
                rintro e w7 ⟨rfl, k7⟩
                obtain ⟨i1, i2, i3, hm6⟩ := HH6.out
                have hB6 := i1.kept0 k7
                have hF6 := i2.kept0 k7
                have kk6 := i3.trans k7 (by simp)
                clear x0 x1 x2 x3 y0 y1 y2 y3 i1 i2 i3 k7 HE6 HH6 HS5
                have hS6 := same16_any hB6 hF6 hm6
                have HS6 := Hid.mk hS6
                have HX6 : Hid (∀ W, Kept [] w7 W → Both w W p pf) := fun W k => ⟨_, _, _, hB6.kept0 k, hF6.kept0 k, hm6, hp, kk6.trans k (by simp)⟩
                clear hS6 hB6 hF6 hm6 kk6
                go_wp2_with fail
                refine HS6.out.mono ?_
                rintro e w9 ⟨rfl, k9⟩
                have H9 := Hid.mk (HX6.out _ k9)
                clear HX6 k9
                go_wp2_with fail
                go_roundw
                case rel => exact ⟨j + 1, by go_num, by omega, H9⟩
                case measure => simp [intOf]; omega
          · have g2 : (op.kind == 2) = false := by simp [h2]
            clear h1 h2 d1 d2 d3 d4
            as_aux_lemma =>
              have hB6 := hB
              have hF6 := hF
              have hm6 := hm
              have kk6 := kk
              clear hB hF hm kk
              have hS6 := same16_any hB6 hF6 hm6
              have HS6 := Hid.mk hS6
              have HX6 : Hid (∀ W, Kept [] wr W → Both w W p pf) := fun W k => ⟨_, _, _, hB6.kept0 k, hF6.kept0 k, hm6, hp, kk6.trans k (by simp)⟩
              clear hS6 hB6 hF6 hm6 kk6
              go_wp2_with fail
              refine HS6.out.mono ?_
              rintro e w9 ⟨rfl, k9⟩
              have H9 := Hid.mk (HX6.out _ k9)
              clear HX6 k9
              go_wp2_with fail
              go_roundw
              case rel => exact ⟨j + 1, by go_num, by omega, H9⟩
              case measure => simp [intOf]; omega
      · obtain rfl : j = n := by omega
        obtain ⟨qs, ms, v, hB, hF, hm, hp, kk⟩ := hH.out
        clear hB hF hm hp hH
        go_wp2_with fail
        go_ret
        exact ⟨rfl, kk⟩
set_option maxRecDepth 100000 in
set_option maxHeartbeats 2000000 in
theorem plays_zero {a : Option Addr} {n c : Nat} {l : List Oq} (hr : RowO w (.slice a n c) l) (hv : ∀ o ∈ l, ReadsJ w o.q.sl o.q.x.args ∧ o.q.x.ok) : Calls Try.prog 3 #[.slice a n c, .bool true] w fun e w' => e = .returned (.bool true) ∧ Kept [] w w' := by
  obtain ⟨hn, hc1, hc2⟩ := hr.bound
  have HR := Hid.mk hr
  have HV := Hid.mk hv
  have HN := Hid.mk hn
  clear hr hv hn
  go_enter Try.func3, Try.ntmps3
  go_wp2_with fail
  refine awake8.mono ?_
  rintro e w1 ⟨rfl, k1⟩
  go_wp2_with fail
  refine (few9 (HR.out.kept k1 (by simp))).mono ?_
  rintro e w2 ⟨fb, rfl, hfew, k2⟩
  have k02 := k1.trans k2 (by simp)
  cases fb with
  | false =>
    go_wp2_with fail
    refine awake8.mono ?_
    rintro e w3 ⟨rfl, k3⟩
    go_wp2_with fail
    go_ret
    exact ⟨rfl, k02.trans k3 (by simp)⟩
  | true =>
    have HFQ := Hid.mk (hfew rfl)
    have hnl : n ≤ 301 := by have := HFQ.out.1; have := HN.out; omega
    clear hfew
    go_wp2_with fail
    refine new10.mono ?_
    rintro e w3 ⟨rfl, hB3, k3, -⟩
    have k03 := k02.trans k3 (by simp)
    go_wp2_with fail
    have k4 := (Kept.refl [] w3).alloc (.cells #[.slice none 0 0] 30)
    have hF4 : IsF w (w3.alloc (.cells #[.slice none 0 0] 30)) w3.heap.size (.slice none 0 0) [] := ⟨heap_alloc_new w3 _, OwnL.nil w _, k03.size⟩
    have k04 := k03.trans k4 (by simp)
    have hz3 : (w3.alloc (.cells #[.slice none 0 0] 30)).heap.size = w3.heap.size + 1 := by simp
    generalize w3.alloc (.cells #[.slice none 0 0] 30) = W3 at hF4 k04 hz3 ⊢
    have k5 := (Kept.refl [] W3).alloc (.cells (cellsB []).toArray 37)
    have H0 : Hid (Both w (W3.alloc (.cells (cellsB []).toArray 37)) W3.heap.size w3.heap.size) := ⟨[], [], _, IsB.new W3, hF4.kept0 k5, rfl, k04.size, k04.trans k5 (by simp)⟩
    change Hid (Both w (W3.alloc (.cells #[.string { data := #[] }, .int .u64 0, .int .i64 0, .slice none 0 0, .string { data := #[] }, .int .u64 0, .int .i64 0, .slice none 0 0, .string { data := #[] }, .int .u64 0, .int .i64 0, .slice none 0 0, .string { data := #[] }, .int .u64 0, .int .i64 0, .slice none 0 0, .string { data := #[] }, .int .u64 0, .int .i64 0, .slice none 0 0, .string { data := #[] }, .int .u64 0, .int .i64 0, .slice none 0 0, .string { data := #[] }, .int .u64 0, .int .i64 0, .slice none 0 0, .string { data := #[] }, .int .u64 0, .int .i64 0, .slice none 0 0, .int .i64 0] 37)) W3.heap.size w3.heap.size) at H0
    generalize W3.alloc (.cells #[.string { data := #[] }, .int .u64 0, .int .i64 0, .slice none 0 0, .string { data := #[] }, .int .u64 0, .int .i64 0, .slice none 0 0, .string { data := #[] }, .int .u64 0, .int .i64 0, .slice none 0 0, .string { data := #[] }, .int .u64 0, .int .i64 0, .slice none 0 0, .string { data := #[] }, .int .u64 0, .int .i64 0, .slice none 0 0, .string { data := #[] }, .int .u64 0, .int .i64 0, .slice none 0 0, .string { data := #[] }, .int .u64 0, .int .i64 0, .slice none 0 0, .string { data := #[] }, .int .u64 0, .int .i64 0, .slice none 0 0, .int .i64 0] 37) = W4 at H0 ⊢
    rw [hz3] at H0
    clear hz3
    generalize w3.heap.size + 1 = p at H0 ⊢
    generalize w3.heap.size = pf at H0 ⊢
    generalize Value.agg #[.string { data := #[] }, .int .u64 0, .int .i64 0, .slice none 0 0, .string { data := #[] }, .int .u64 0, .int .i64 0, .slice none 0 0, .string { data := #[] }, .int .u64 0, .int .i64 0, .slice none 0 0, .string { data := #[] }, .int .u64 0, .int .i64 0, .slice none 0 0, .string { data := #[] }, .int .u64 0, .int .i64 0, .slice none 0 0, .string { data := #[] }, .int .u64 0, .int .i64 0, .slice none 0 0, .string { data := #[] }, .int .u64 0, .int .i64 0, .slice none 0 0, .string { data := #[] }, .int .u64 0, .int .i64 0, .slice none 0 0, .int .i64 0] = AG
    clear hB3 k4 k03 k3 k02 k2 k1 k04 k5 hF4
    go_loopw [28] (fun i wr => ∃ (j : Nat), i = .int .i64 (j : Int) ∧ j ≤ n ∧ Hid (Both w wr p pf)) (fun i _ => n - (intOf i).toNat)
    case atStart => exact ⟨0, rfl, by omega, H0⟩
    case round =>
      clear H0
      obtain ⟨j, rfl, hj, hH⟩ := hrel
      by_cases hlt : j < n
      · have hjI : (j : Int) < (n : Int) := by omega
        obtain ⟨op, ho⟩ : ∃ o, l[j]? = some o := ⟨_, List.getElem?_eq_getElem (by have := HN.out; omega)⟩
        have hom := List.mem_of_getElem? ho
        obtain ⟨b, o0, rfl, r0, r1, r2, r3, r4⟩ := HR.out.at ho
        obtain ⟨qs, ms, v, hB, hF, hm, hp, kk⟩ := hH.out
        have d0 := kk.cell_eq r0
        have d1 := kk.cell_eq r1
        have d2 := kk.cell_eq r2
        have d3 := kk.cell_eq r3
        have d4 := kk.cell_eq r4
        have HRC := Hid.mk (And.intro r0 (And.intro r1 (And.intro r2 (And.intro r3 r4))))
        clear r0 r1 r2 r3 r4 ho hH
        by_cases h1 : op.kind = 1
        · as_aux_lemma =>
            have g1 : (op.kind == 1) = true := by simp [h1]
            have h8 := hB.len
            have hml : qs.length = ms.length := by simpa using congrArg List.length hm
            have hx := (HV.out op hom).1
            have hxok := (HV.out op hom).2
            have kd := kk.drew
            have HS : Hid (∀ W, Kept [] w W → (W.cell? ⟨b, o0 + j * 5 + 1, none⟩ = some (Sv op.q.x.fr) ∧ W.cell? ⟨b, o0 + j * 5 + 2, none⟩ = some (.int .u64 (op.q.x.ser : Int)) ∧ W.cell? ⟨b, o0 + j * 5 + 3, none⟩ = some (.int .i64 op.q.x.kind) ∧ W.cell? ⟨b, o0 + j * 5 + 4, none⟩ = some (.slice op.q.ad op.q.x.args.length op.q.cap))) := fun W k => ⟨k.cell_eq HRC.out.2.1, k.cell_eq HRC.out.2.2.1, k.cell_eq HRC.out.2.2.2.1, k.cell_eq HRC.out.2.2.2.2⟩
            have S0 := HS.out _ kd
            have hBd := hB.kept0 (Kept.refl [] wr).drew
            have hFd := hF.kept0 (Kept.refl [] wr).drew
            generalize hE : pushE qs.length op.q.x = E
            have H11 : Hid (Calls Try.prog 11 #[.pointer (some ⟨p, 0, none⟩), Lv op.q.x op.q.ad op.q.cap] wr.drew fun e w' => ∃ qs', e = .returned (.int .i64 E) ∧ IsB w' p qs' ∧ qs'.map (·.x) = pushL (qs.map (·.x)) op.q.x ∧ Kept [p] wr.drew w') := by
              refine (push11 op.q.x op.q.ad op.q.cap hBd (hx.kept kd (by simp)) hxok).mono ?_
              rintro e w' ⟨qs', rfl, i1, i2, i3, -⟩
              exact ⟨qs', by rw [hE], i1, i2, i3⟩
            have H12 : Hid (∀ W, IsF w W pf v ms → Kept [] w W → Calls Try.prog 12 #[.pointer (some ⟨pf, 0, none⟩), Lv op.q.x op.q.ad op.q.cap] W fun e w' => e = .returned (.int .i64 E) ∧ ∃ v' qs', IsF w w' pf v' qs' ∧ qs'.map (·.x) = pushL (ms.map (·.x)) op.q.x ∧ Kept (foot pf v) W w') := fun W i1 i2 => by
              have := rpush12 op.q.x op.q.ad op.q.cap i1 (by omega) (hx.kept i2 (by simp)) i2.size
              rw [← hml, hE] at this
              exact this
            have HBF : Hid (IsB wr.drew p qs ∧ IsF w wr.drew pf v ms ∧ qs.map (·.x) = ms.map (·.x) ∧ Kept [] w wr.drew) := ⟨hBd, hFd, hm, kd⟩
            have hEE : (E != E) = false := by simp
            have hj0 : (0 : Int) ≤ (j : Int) := by omega
            clear hB hF hm kk hBd hFd kd hx hxok hE h8 hml
            go_wp2_with fail
            clear d0 d1 d2 d3 d4
            go_region_held3 (fun W => W.cell? ⟨b, o0 + j * 5 + 1, none⟩ = some (Sv op.q.x.fr) ∧ W.cell? ⟨b, o0 + j * 5 + 2, none⟩ = some (.int .u64 (op.q.x.ser : Int)) ∧ W.cell? ⟨b, o0 + j * 5 + 3, none⟩ = some (.int .i64 op.q.x.kind) ∧ W.cell? ⟨b, o0 + j * 5 + 4, none⟩ = some (.slice op.q.ad op.q.x.args.length op.q.cap)) (first | exact S0 | exact S1 | exact S2) (first | (go_at_call 11; refine H11.out.mono ?_; rintro e w5 ⟨qs5, rfl, hB5, hm5, k5⟩; have hF5 := HBF.out.2.1.besides HBF.out.1 k5; have kk5 : Kept [] w w5 := HBF.out.2.2.2.trans k5 (by simp; omega); have S1 := HS.out _ kk5) | (go_at_call 12; refine (H12.out _ hF5 kk5).mono ?_; rintro e w6 ⟨rfl, v6, ms6, hF6, hm6', k6⟩; have hB6 := hB5.besides hF5 k6; have kk6 : Kept [] w w6 := kk5.trans k6 (fun y hy => by rcases mem_foot.1 hy with h | h; exact .inr (by have := hF5.fr; omega); exact .inr (hF5.own.fr y h)); have S2 := HS.out _ kk6))
            have hm6 : qs5.map (·.x) = ms6.map (·.x) := by rw [hm5, hm6', HBF.out.2.2.1]
            clear S0 S1 S2 hF5 hB5 hm5 hm6' k5 k6 kk5 H11 H12 HBF HS
            have hS6 := same16_any hB6 hF6 hm6
            have HS6 := Hid.mk hS6
            have HX6 : Hid (∀ W, Kept [] w6 W → Both w W p pf) := fun W k => ⟨_, _, _, hB6.kept0 k, hF6.kept0 k, hm6, hp, kk6.trans k (by simp)⟩
            clear hS6 hB6 hF6 hm6 kk6
            go_wp2_with fail
            refine HS6.out.mono ?_
            rintro e w9 ⟨rfl, k9⟩
            have H9 := Hid.mk (HX6.out _ k9)
            clear HX6 k9
            go_wp2_with fail
            go_roundw
            case rel => exact ⟨j + 1, by go_num, by omega, H9⟩
            case measure => simp [intOf]; omega
        · have g1 : (op.kind == 1) = false := by simp [h1]
          by_cases h2 : op.kind = 2
          · have g2 : (op.kind == 2) = true := by simp [h2]
            clear h1 h2 d1 d2 d3 d4
            cases ms with
            | nil => as_aux_lemma =>
              obtain rfl : qs = [] := by simpa using hm
              have HP := Hid.mk (pop13_none (w := wr) (p' := some ⟨p, 0, none⟩) (fun W k => first22 (hB.kept0 k)))
              have HBF : Hid (IsB wr p [] ∧ IsF w wr pf v [] ∧ Kept [] w wr) := ⟨hB, hF, kk⟩
              clear hB hF hm kk
              go_wp2_with fail
              refine HP.out.mono ?_
              rintro e w5 ⟨a5, c5, rfl, hO5, k5, hf5⟩
              obtain ⟨W5, e5, k5', hz5, hb5⟩ := box1 w5 (.cells #[.string { data := #[] }, .int .u64 0, .int .i64 0, .slice a5 0 c5] 34)
              have hF5 := (HBF.out.2.1.kept0 k5).kept0 k5'
              have HP5 := rpop14_none hF5
              have HB5 := (HBF.out.1.kept0 k5).kept0 k5'
              have hO5' := hO5.kept k5' (by simp)
              have kk5 := (HBF.out.2.2.trans k5 (by simp)).trans k5' (by simp)
              go_wp2_with fail
              try rw [e5]
              refine Calls.mono HP5 ?_
              rintro e w6 ⟨rfl, k6⟩
              obtain ⟨W6, e6, k6', hz6, hb6⟩ := box1 w6 (.cells #[.string { data := #[] }, .int .u64 0, .int .i64 0, .slice none 0 0] 34)
              have hb5' := k6'.keeps (k6.keeps hb5 (by simp)) (by simp)
              have hB6 := (HB5.kept0 k6).kept0 k6'
              have hF6 := (hF5.kept0 k6).kept0 k6'
              have kk6 := (kk5.trans k6 (by simp)).trans k6' (by simp)
              have hS5 := same16 ⟨[], 0, 0, []⟩ ⟨[], 0, 0, []⟩ a5 none c5 0 ((hO5'.kept k6 (by simp)).kept k6' (by simp)).reads (ReadsJ.nil W6) (by simp)
              rw [sameL_refl] at hS5
              obtain ⟨x0, x1, x2, x3⟩ := cells4 hb5'
              obtain ⟨y0, y1, y2, y3⟩ := cells4 hb6
              rw [← e6] at x0 x1 x2 x3 y0 y1 y2 y3
              have HE6 := Hid.mk e6
              have HH6 : Hid (IsB W6 p [] ∧ IsF w W6 pf v [] ∧ Kept [] w W6) := ⟨hB6, hF6, kk6⟩
              have HS5 := Hid.mk hS5
              clear hB6 hF6 kk6 e6 hS5 hb5' hb6 k6 k6' hz6 hF5 HB5 hO5' kk5 e5 k5 k5' hz5 hb5 hO5 hf5 HP HBF HP5
              go_wp2_with fail
              rw [HE6.out]
              refine HS5.out.mono ?_
              rintro e w7 ⟨rfl, k7⟩
              obtain ⟨i1, i2, i3⟩ := HH6.out
              have hB6 := i1.kept0 k7
              have hF6 := i2.kept0 k7
              have hm6 : ([] : List Lq).map (·.x) = ([] : List Lq).map (·.x) := rfl
              have kk6 := i3.trans k7 (by simp)
              clear x0 x1 x2 x3 y0 y1 y2 y3 i1 i2 i3 k7 HE6 HH6 HS5
              have hS6 := same16_any hB6 hF6 hm6
              have HS6 := Hid.mk hS6
              have HX6 : Hid (∀ W, Kept [] w7 W → Both w W p pf) := fun W k => ⟨_, _, _, hB6.kept0 k, hF6.kept0 k, hm6, hp, kk6.trans k (by simp)⟩
              clear hS6 hB6 hF6 hm6 kk6
              go_wp2_with fail
              refine HS6.out.mono ?_
              rintro e w9 ⟨rfl, k9⟩
              have H9 := Hid.mk (HX6.out _ k9)
              clear HX6 k9
              go_wp2_with fail
              go_roundw
              case rel => exact ⟨j + 1, by go_num, by omega, H9⟩
              case measure => simp [intOf]; omega
            | cons m mt => as_aux_lemma =>
              cases qs with
              | nil => simp at hm
              | cons q t =>
                rw [List.map_cons, List.map_cons] at hm
                injection hm with hqm htm
                have h8 := hB.len
                have hml : t.length = mt.length := by simpa using congrArg List.length htm
                rw [List.length_cons] at h8
                have hgd := formed_le (hB.good q (by simp)).2
                have HP := Hid.mk (pop13_some hB)
                have HBF : Hid (IsB wr p (q :: t) ∧ IsF w wr pf v (m :: mt) ∧ Kept [] w wr ∧ q.x = m.x ∧ t.map (·.x) = mt.map (·.x)) := ⟨hB, hF, kk, hqm, htm⟩
                clear hB hF hqm htm kk
                go_wp2_with fail
                refine HP.out.mono ?_
                rintro e w5 ⟨a5, c5, rfl, hO5, k5, hf5, hB5⟩
                obtain ⟨W5, e5, k5', hz5, hb5⟩ := box1 w5 (.cells #[Sv q.x.fr, .int .u64 (q.x.ser : Int), .int .i64 q.x.kind, .slice a5 q.x.args.length c5] 34)
                have hF5 := (HBF.out.2.1.besides HBF.out.1 k5).kept0 k5'
                have kk5 : Kept [] w W5 := (HBF.out.2.2.1.trans k5 (by simp; omega)).trans k5' (by simp)
                have HP5 := rpop14_some hF5 (by omega) kk5.size
                have hB5' := hB5.kept0 k5'
                have hO5' := hO5.kept k5' (by simp)
                go_wp2_with fail
                try rw [e5]
                refine Calls.mono HP5 ?_
                rintro e w6 ⟨rfl, v6, hF6', hO6, k6⟩
                obtain ⟨W6, e6, k6', hz6, hb6⟩ := box1 w6 (.cells #[Sv m.x.fr, .int .u64 (m.x.ser : Int), .int .i64 m.x.kind, .slice m.ad m.x.args.length m.cap] 34)
                have hb5' := k6'.keeps (k6.keeps hb5 (by simp; exact box_ne hb5 hF5.box (by decide))) (by simp)
                have hB6 := (hB5'.kept k6 (by simp; exact box_ne hB5'.box hF5.box (by decide)) (fun y hy g hg hm' => by simp at hm'; subst hm'; exact ownsJ_ne (hB5'.args y hy) hF5.box (by decide) hg)).kept0 k6'
                have hO7 := (hO5'.kept k6 (fun g hg hm' => by simp at hm'; subst hm'; exact ownsJ_ne hO5' hF5.box (by decide) hg)).kept k6' (by simp)
                have hF6 := hF6'.kept0 k6'
                have kk6 : Kept [] w W6 := (kk5.trans k6 (by simp; exact hF5.fr)).trans k6' (by simp)
                have hS5 := same16 q.x m.x a5 m.ad c5 m.cap hO7.reads (hO6.kept k6' (by simp)).reads (by omega)
                rw [(sameL_iff _ _).2 HBF.out.2.2.2.1] at hS5
                obtain ⟨x0, x1, x2, x3⟩ := cells4 hb5'
                obtain ⟨y0, y1, y2, y3⟩ := cells4 hb6
                rw [← e6] at x0 x1 x2 x3 y0 y1 y2 y3
                have HE6 := Hid.mk e6
                have HH6 : Hid (IsB W6 p t ∧ IsF w W6 pf v6 mt ∧ Kept [] w W6 ∧ t.map (·.x) = mt.map (·.x)) := ⟨hB6, hF6, kk6, HBF.out.2.2.2.2⟩
                have HS5 := Hid.mk hS5
                clear hB6 hF6 kk6 e6 hS5 hb5' hb6 k6 k6' hz6 hF5 hB5 hB5' hO5' kk5 e5 k5 k5' hz5 hb5 hO5 hf5 HP HBF HP5 hO7 hF6' hO6 h8 hml
                go_wp2_with fail
                rw [HE6.out]
                refine HS5.out.mono ?_
                rintro e w7 ⟨rfl, k7⟩
                obtain ⟨i1, i2, i3, hm6⟩ := HH6.out
                have hB6 := i1.kept0 k7
                have hF6 := i2.kept0 k7
                have kk6 := i3.trans k7 (by simp)
                clear x0 x1 x2 x3 y0 y1 y2 y3 i1 i2 i3 k7 HE6 HH6 HS5
                have hS6 := same16_any hB6 hF6 hm6
                have HS6 := Hid.mk hS6
                have HX6 : Hid (∀ W, Kept [] w7 W → Both w W p pf) := fun W k => ⟨_, _, _, hB6.kept0 k, hF6.kept0 k, hm6, hp, kk6.trans k (by simp)⟩
                clear hS6 hB6 hF6 hm6 kk6
                go_wp2_with fail
                refine HS6.out.mono ?_
                rintro e w9 ⟨rfl, k9⟩
                have H9 := Hid.mk (HX6.out _ k9)
                clear HX6 k9
                go_wp2_with fail
                go_roundw
                case rel => exact ⟨j + 1, by go_num, by omega, H9⟩
                case measure => simp [intOf]; omega
          · have g2 : (op.kind == 2) = false := by simp [h2]
            clear h1 h2 d1 d2 d3 d4
            as_aux_lemma =>
              have hB6 := hB
              have hF6 := hF
              have hm6 := hm
              have kk6 := kk
              clear hB hF hm kk
              have hS6 := same16_any hB6 hF6 hm6
              have HS6 := Hid.mk hS6
              have HX6 : Hid (∀ W, Kept [] wr W → Both w W p pf) := fun W k => ⟨_, _, _, hB6.kept0 k, hF6.kept0 k, hm6, hp, kk6.trans k (by simp)⟩
              clear hS6 hB6 hF6 hm6 kk6
              go_wp2_with fail
              refine HS6.out.mono ?_
              rintro e w9 ⟨rfl, k9⟩
              have H9 := Hid.mk (HX6.out _ k9)
              clear HX6 k9
              go_wp2_with fail
              go_roundw
              case rel => exact ⟨j + 1, by go_num, by omega, H9⟩
              case measure => simp [intOf]; omega
      · obtain rfl : j = n := by omega
        obtain ⟨qs, ms, v, hB, hF, hm, hp, kk⟩ := hH.out
        clear hB hF hm hp hH
        go_wp2_with fail
        go_ret
        exact ⟨rfl, kk⟩
theorem plays_walk {a : Option Addr} {n c : Nat} {l : List Oq} (z : Bool) (hr : RowO w (.slice a n c) l) (hv : ∀ o ∈ l, ReadsJ w o.q.sl o.q.x.args ∧ o.q.x.ok) : Calls Try.prog 3 #[.slice a n c, .bool z] w fun e w' => e = .returned (.bool true) ∧ Kept [] w w' := by
  cases z with
  | false => exact plays_new hr hv
  | true => exact plays_zero hr hv
end
end Go.Proofs.Ytpcliempoagpoaa
