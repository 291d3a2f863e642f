/-
  InboxMoves: the walk.
-/
import Derived.Test.YtpcliempoagpoaaIl
namespace Go.Proofs.Ytpcliempoagpoaa
open Go.RowKit
set_option linter.unusedVariables false
/-- Letters are pushed into the first inbox, and kept in a list. -/
def MvA (w wr : World) (pa pb : Nat) (v : Value) (l : List Lq) (j : Nat) : Prop := ∃ qs ws, IsB wr pa qs ∧ IsB wr pb [] ∧ qs.map (·.x) = ws.map (·.x) ∧ OwnsR 34 4 wr v (CQ ws) ∧ Fresh w v ∧ ws.length ≤ j ∧ (∀ q ∈ ws, q ∈ l) ∧ Kept [] w wr
/-- They go over into the second. -/
def MvB (w wr : World) (pa pb : Nat) (v : Value) (l : List Lq) (n k : Nat) : Prop := ∃ qa qb ws, IsB wr pa qa ∧ IsB wr pb qb ∧ (qb ++ qa).map (·.x) = ws.map (·.x) ∧ OwnsR 34 4 wr v (CQ ws) ∧ ws.length ≤ n ∧ (qa = [] ∨ qa.length + k ≤ n) ∧ (∀ q ∈ ws, q ∈ l) ∧ Kept [] w wr
section
variable {w : World}
set_option maxRecDepth 100000 in
set_option maxHeartbeats 1000000 in
theorem moves_walk {a : Option Addr} {n c : Nat} {l : List Lq} (hr : RowQ w (.slice a n c) l) (hv : ValsQ w l) (hok : ∀ q ∈ l, q.x.ok) : Calls Try.prog 7 #[.slice a n c] w fun e w' => e = .returned (.bool true) ∧ Kept [] w w' := by
  obtain ⟨hn, hc1, hc2⟩ := hr.bound
  have HR := Hid.mk hr
  have HV := Hid.mk hv
  have HO := Hid.mk hok
  have HN := Hid.mk hn
  clear hr hv hok hn
  go_enter Try.func7, Try.ntmps7
  go_wp2_with fail
  refine awake8.mono ?_
  rintro e w1 ⟨rfl, k1⟩
  by_cases h8 : 8 < n
  · have g8 : (8 : Int) < (n : Int) := by omega
    go_wp2_with fail
    refine awake8.mono ?_
    rintro e w2 ⟨rfl, k2⟩
    go_wp2_with fail
    go_ret
    exact ⟨rfl, k1.trans k2 (by simp)⟩
  · have g8 : ((8 : Int) < (n : Int)) = False := eq_false (by omega)
    go_wp2_with fail
    refine new10.mono ?_
    rintro e w2 ⟨rfl, hA2, k2, hz2⟩
    go_wp2_with fail
    refine new10.mono ?_
    rintro e w3 ⟨rfl, hB3, k3, -⟩
    have hA3 := hA2.kept0 k3
    have k03 := (k1.trans k2 (by simp)).trans k3 (by simp)
    have hpl := k1.size
    have hpne : w1.heap.size ≠ w2.heap.size := by omega
    have hpl2 : w.heap.size ≤ w2.heap.size := by omega
    clear k1 k2 k3 hA2 hz2
    generalize w1.heap.size = pa at hA3 hpl hpne ⊢
    generalize w2.heap.size = pb at hB3 hpl2 hpne ⊢
    go_wp2_with fail
    go_loopw [5, 21] (fun u i wr => ∃ (j : Nat) (v : Value), u = v ∧ i = .int .i64 (j : Int) ∧ j ≤ n ∧ Hid (MvA w wr pa pb v l j)) (fun _ i _ => n - (intOf i).toNat)
    case atStart => exact ⟨0, _, rfl, rfl, by omega, Hid.mk ⟨[], [], hA3, hB3, rfl, OwnsR.nil 34 4 _, fresh_nil w 0, by simp, by simp, k03⟩⟩
    case round =>
      obtain ⟨j, v, rfl, rfl, hj, hH⟩ := hrel
      generalize hu5 : u5 = v at *
      clear hu5
      by_cases hlt : j < n
      · have hjI : (j : Int) < (n : Int) := by omega
        obtain ⟨qs, ws, hA, hB, hm, ho, hf, hwl, hwi, kk⟩ := hH.out
        obtain ⟨q, hq⟩ : ∃ q, l[j]? = some q := ⟨_, List.getElem?_eq_getElem (by have := HN.out; omega)⟩
        have hqm := List.mem_of_getElem? hq
        obtain ⟨b, o, rfl, r0, r1, r2, r3⟩ := HR.out.at hq
        have d0 := kk.cell_eq r0
        have d1 := kk.cell_eq r1
        have d2 := kk.cell_eq r2
        have d3 := kk.cell_eq r3
        have HRC := Hid.mk (And.intro r0 (And.intro r1 (And.intro r2 r3)))
        clear r0 r1 r2 r3
        have hql : qs.length = ws.length := by simpa using congrArg List.length hm
        by_cases h1000 : 1000 < q.x.args.length
        · have g1000 : (1000 : Int) < (q.x.args.length : Int) := by omega
          have HK := Hid.mk kk
          clear hA hB hm ho hf hwl hwi kk hql
          go_wp2_with fail
          go_ret
          exact ⟨rfl, HK.out⟩
        · have g1000 : ((1000 : Int) < (q.x.args.length : Int)) = False := eq_false (by omega)
          have HP := Hid.mk (push11 q.x q.ad q.cap hA ((HV.out q hqm).kept kk (by simp)) (HO.out q hqm))
          have HH : Hid (IsB wr pa qs ∧ IsB wr pb [] ∧ qs.map (·.x) = ws.map (·.x) ∧ OwnsR 34 4 wr v ((CQ ws)) ∧ Fresh w v ∧ ws.length ≤ j ∧ (∀ q ∈ ws, q ∈ l) ∧ Kept [] w wr ∧ qs.length = ws.length ∧ q ∈ l) := ⟨hA, hB, hm, ho, hf, hwl, hwi, kk, hql, hqm⟩
          have hRR := Hid.mk hq
          clear hA hB hm ho hf hwl hwi kk hql hqm hq
          go_wp2_with fail
          refine HP.out.mono ?_
          rintro e w4 ⟨qs4, rfl, hA4, hm4, k4, -⟩
          obtain ⟨hA, hB, hm, ho, hf, hwl, hwi, kk, hql, hqm⟩ := HH.out
          have hB4 := hB.kept k4 (by simp; omega) (by simp)
          have ho4 := OwnsR.kept ho k4 (fun g hg hm' => by simp at hm'; subst hm'; exact ownsR_ne ho hA.box (by decide) hg)
          have kk4 : Kept [] w w4 := kk.trans k4 (by simp; omega)
          cases hfm : q.x.formed with
          | false =>
            have hE : pushE qs.length q.x = 1 := by unfold pushE; rw [if_pos hfm]
            rw [hE]
            have H4 : Hid (MvA w w4 pa pb v l (j + 1)) := ⟨qs4, ws, hA4, hB4, by rw [hm4, ← hm]; unfold pushL; rw [if_neg (by simp [hfm])], ho4, hf, by omega, hwi, kk4⟩
            clear hE hA hB hm ho hf hwl hwi kk hql hqm hB4 ho4 kk4 hA4 hm4 k4 hfm d0 d1 d2 d3
            go_wp2_with fail
            go_roundw
            case rel => exact ⟨j + 1, _, rfl, by go_num, by omega, H4⟩
            case measure => simp [intOf]; omega
          | true =>
            have hE : pushE qs.length q.x = 0 := by unfold pushE; rw [if_neg (by simp [hfm]), if_neg (by omega)]
            rw [hE]
            obtain ⟨ad, c5, w5, hrun, ho5, k5, hN5⟩ := append_rowR rt28 ho4 (cellsQ q) rfl (fun u hu => by simp [cellsQ] at hu; rcases hu with rfl | rfl | rfl | rfl <;> rfl) (by rw [CQ_length]; omega) 34 (0, 0) 28
            rw [CQ_length] at *
            have hoA := ownsR_ne ho4 hA4.box (by decide)
            have hA5 := hA4.kept k5 (by rw [Option.mem_toList]; exact ownsR_ne ho4 hA4.box (by decide)) (fun y hy g hg hm' => by rw [Option.mem_toList] at hm'; exact own_apart (hA4.args y hy) ho4 (by decide) hg hm')
            have hB5 := hB4.kept k5 (by rw [Option.mem_toList]; exact ownsR_ne ho4 hB4.box (by decide)) (by simp)
            have H5 : Hid (MvA w w5 pa pb (.slice ad (ws.length + 1) c5) l (j + 1)) := by
              refine ⟨qs4, ws ++ [q], hA5, hB5, ?_, ?_, ?_, by simp; omega, ?_, kk4.trans k5 (fun y hy => ?_)⟩
              · rw [hm4, List.map_append, ← hm]
                unfold pushL
                rw [if_pos ⟨hfm, by rw [List.length_map]; omega⟩]
                rfl
              · rw [CQ_append]; exact ho5
              · intro g hg
                rcases hN5 g hg with h | h
                · exact hf g h
                · have := kk4.size; omega
              · intro y hy
                rcases List.mem_append.1 hy with h | h
                · exact hwi y h
                · simp at h; subst h; exact hqm
              · rw [Option.mem_toList] at hy
                exact .inr (hf y hy)
            have hrun' : (Builtin.append_ #[28, 28] 28 #[v, .slice (some ⟨w4.heap.size, 0, none⟩) 1 1]).run Try.prog (w4.alloc (.cells #[Sv q.x.fr, .int .u64 (q.x.ser : Int), .int .i64 q.x.kind, q.sl] 34)) = .ok (.slice ad (ws.length + 1) c5) w5 := hrun
            obtain ⟨r0, r1, r2, r3⟩ := HRC.out
            have e0 := kk4.cell_eq r0
            have e1 := kk4.cell_eq r1
            have e2 := kk4.cell_eq r2
            have e3 := kk4.cell_eq r3
            clear hE hA hB hm ho hf hwl hwi kk hql hqm hB4 ho4 kk4 hA4 hm4 k4 hfm d0 d1 d2 d3 r0 r1 r2 r3 hrun ho5 k5 hN5 hoA hA5 hB5
            go_wp2_with (at_builtin; refine wpList_append_run 28 28 _ _ rfl (by rfl) _ _ rfl rfl _ _ hrun' ?_)
            go_roundw
            case rel => exact ⟨j + 1, _, rfl, by go_num, by omega, H5⟩
            case measure => simp [intOf]; omega
      · obtain rfl : j = n := by omega
        obtain ⟨qs, ws, hA, hB, hm, ho, hf, hwl, hwi, kk⟩ := hH.out
        have HB0 : Hid (MvB w wr pa pb v l j 0) := ⟨qs, [], ws, hA, hB, by simpa using hm, ho, hwl, .inr (by
          have hql : qs.length = ws.length := by simpa using congrArg List.length hm
          omega), hwi, kk⟩
        clear hA hB hm ho hf hwl hwi kk hH
        go_wp2_with fail
        go_loopw [48] (fun i wr => ∃ (k : Nat), i = .int .i64 (k : Int) ∧ k ≤ j ∧ Hid (MvB w wr pa pb v l j k)) (fun i _ => j - (intOf i).toNat)
        case atStart => exact ⟨0, rfl, by omega, HB0⟩
        case round =>
          clear HB0 hlt
          obtain ⟨k, rfl, hk, hH⟩ := hrel
          by_cases hlt : k < j
          · have hkI : (k : Int) < (j : Int) := by omega
            obtain ⟨qa, qb, ws, hA, hB, hm, ho, hwl, hqa, hwi, kk⟩ := hH.out
            cases qa with
            | nil =>
              have HP := Hid.mk (pop13_none (w := wr) (p' := some ⟨pa, 0, none⟩) (fun W k => first22 (hA.kept0 k)))
              have HH : Hid (IsB wr pa [] ∧ IsB wr pb qb ∧ (qb ++ ([] : List Lq)).map (·.x) = ws.map (·.x) ∧ OwnsR 34 4 wr v (CQ ws) ∧ ws.length ≤ j ∧ (∀ q ∈ ws, q ∈ l) ∧ Kept [] w wr) := ⟨hA, hB, hm, ho, hwl, hwi, kk⟩
              clear hA hB hm ho hwl hqa hwi kk hH
              go_wp2_with fail
              refine HP.out.mono ?_
              rintro e w4 ⟨a4, c4, rfl, hO4, k4, -⟩
              have hN : Hid (MvB w w4 pa pb v l j (k + 1)) := by
                obtain ⟨hA, hB, hm, ho, hwl, hwi, kk⟩ := HH.out
                exact ⟨[], qb, ws, hA.kept0 k4, hB.kept0 k4, hm, OwnsR.kept ho k4 (by simp), hwl, .inl rfl, hwi, kk.trans k4 (by simp)⟩
              have hN2 : Hid (∀ o, MvB w (w4.alloc o) pa pb v l j (k + 1)) := fun o => by
                obtain ⟨hA, hB, hm, ho, hwl, hwi, kk⟩ := HH.out
                have k5 := k4.alloc o
                exact ⟨[], qb, ws, hA.kept0 k5, hB.kept0 k5, hm, OwnsR.kept ho k5 (by simp), hwl, .inl rfl, hwi, kk.trans k5 (by simp)⟩
              clear hN HH
              go_wp2_with fail
              go_roundw
              case rel => exact ⟨k + 1, by go_num, by omega, Hid.mk (hN2.out _)⟩
              case measure => simp [intOf]; omega
            | cons q t =>
              have HP := Hid.mk (pop13_some hA)
              have hlen : (qb ++ q :: t).length = ws.length := by simpa using congrArg List.length hm
              rw [List.length_append, List.length_cons] at hlen
              have HH : Hid (IsB wr pa (q :: t) ∧ IsB wr pb qb ∧ (qb ++ q :: t).map (·.x) = ws.map (·.x) ∧ OwnsR 34 4 wr v (CQ ws) ∧ ws.length ≤ j ∧ t.length + 1 + k ≤ j ∧ (∀ q ∈ ws, q ∈ l) ∧ Kept [] w wr) := ⟨hA, hB, hm, ho, hwl, by rcases hqa with h | h; cases h; rw [List.length_cons] at h; omega, hwi, kk⟩
              have hgd := hA.good q (by simp)
              have HG := Hid.mk hgd
              clear hA hB hm ho hwl hqa hwi kk hH hgd
              go_wp2_with fail
              refine HP.out.mono ?_
              rintro e w4 ⟨a4, c4, rfl, hO4, k4, hf4, hA4⟩
              obtain ⟨hA, hB, hm, ho, hwl, hqa, hwi, kk⟩ := HH.out
              have hB4 := hB.kept k4 (by simp; omega) (fun y hy g hg hm' => by simp at hm'; subst hm'; exact ownsJ_ne (hB.args y hy) hA.box (by decide) hg)
              have ho4 := OwnsR.kept ho k4 (fun g hg hm' => by simp at hm'; subst hm'; exact ownsR_ne ho hA.box (by decide) hg)
              have kk4 : Kept [] w w4 := kk.trans k4 (by simp; omega)
              obtain ⟨W5, e5, k5, hz5, hb5⟩ := box1 w4 (.cells #[Sv q.x.fr, .int .u64 (q.x.ser : Int), .int .i64 q.x.kind, .slice a4 q.x.args.length c4] 34)
              have hA5 := hA4.kept0 k5
              have hB5 := hB4.kept0 k5
              have ho5 := OwnsR.kept ho4 k5 (by simp)
              have kk5 := kk4.trans k5 (by simp)
              have HPB := push11 q.x a4 c4 hB5 (hO4.reads.kept k5 (by simp)) HG.out.1
              rw [← e5] at HPB
              have HPB := Hid.mk HPB
              have HS : Hid (IsB W5 pa t ∧ IsB W5 pb qb ∧ OwnsR 34 4 W5 v (CQ ws) ∧ Kept [] w W5 ∧ w4.alloc (.cells #[Sv q.x.fr, .int .u64 (q.x.ser : Int), .int .i64 q.x.kind, .slice a4 q.x.args.length c4] 34) = W5) := ⟨hA5, hB5, ho5, kk5, e5⟩
              clear hA hB hm ho hwl hqa hwi kk hB4 ho4 kk4 e5 k5 hz5 hb5 hA5 hB5 ho5 kk5 hO4 k4 hf4 hA4
              go_wp2_with fail
              refine HPB.out.mono ?_
              rintro e w6 ⟨qs6, rfl, hB6, hm6, k6, -⟩
              obtain ⟨hA5, hB5, ho5, kk5, e5⟩ := HS.out
              rw [e5] at k6
              obtain ⟨hA, hB, hm, ho, hwl, hqa, hwi, kk⟩ := HH.out
              have hA6 := hA5.kept k6 (by simp; omega) (fun y hy g hg hm' => by simp at hm'; subst hm'; exact ownsJ_ne (hA5.args y hy) hB5.box (by decide) hg)
              have ho6 := OwnsR.kept ho5 k6 (fun g hg hm' => by simp at hm'; subst hm'; exact ownsR_ne ho5 hB5.box (by decide) hg)
              have kk6 : Kept [] w w6 := kk5.trans k6 (by simp; omega)
              have hql : qb.length < 8 := by omega
              have hE : pushE qb.length q.x = 0 := by unfold pushE; rw [if_neg (by simp [HG.out.2]), if_neg (by omega)]
              have H6 : Hid (MvB w w6 pa pb v l j (k + 1)) := by
                refine ⟨t, qs6, ws, hA6, hB6, ?_, ho6, hwl, .inr (by omega), hwi, kk6⟩
                rw [List.map_append, hm6, ← hm]
                unfold pushL
                rw [if_pos ⟨HG.out.2, by rw [List.length_map]; omega⟩]
                simp
              rw [hE]
              clear hA hB hm ho hwl hqa hwi kk hA5 hB5 ho5 kk5 e5 hB6 hm6 k6 hA6 ho6 kk6 hql hE
              go_wp2_with fail
              go_roundw
              case rel => exact ⟨k + 1, by go_num, by omega, H6⟩
              case measure => simp [intOf]; omega
          · obtain rfl : k = j := by omega
            obtain ⟨qa, qb, ws, hA, hB, hm, ho, hwl, hqa, hwi, kk⟩ := hH.out
            have hq0 : qa = [] := by
              rcases hqa with h | h
              · exact h
              · exact List.eq_nil_of_length_eq_zero (by omega)
            subst hq0
            rw [List.append_nil] at hm
            obtain ⟨av, cv, rfl, hv1, hv2⟩ := ho.form
            rw [CQ_length] at *
            have H21 := Hid.mk (len21 hA)
            have H24 := Hid.mk (all24 hB)
            have H25 : Hid (∀ W qs' v', Kept [] wr W → OwnL wr W v' qs' → qs'.map (·.x) = qb.map (·.x) → Calls Try.prog 25 #[v', .slice av ws.length cv] W fun e w' => e = .returned (.bool true) ∧ Kept [] W w') := fun W qs' v' k' ho' hm' => by
              obtain ⟨a', c', rfl, -, -⟩ := ho'.row.form
              have hl' : qs'.length = qb.length := by rw [← List.length_map (f := (·.x)), hm', List.length_map]
              have hrow : RowQ wr (.slice av ws.length cv) ws := OwnsR.reads ho (CQ_wide ws)
              have := sameAll24 ho'.row ho'.vals (hrow.kept k' (by simp)) (fun q hq => (HV.out q (hwi q hq)).kept (kk.trans k' (by simp)) (by simp)) (by have := hB.len; omega) (fun y hy => by
                have hm'' : y.x ∈ qb.map (·.x) := by rw [← hm']; exact List.mem_map.2 ⟨y, hy, rfl⟩
                obtain ⟨z, hz, hzy⟩ := List.mem_map.1 hm''
                have := formed_le (hB.good z hz).2
                rw [← hzy]
                omega)
              rwa [decide_eq_true (hm'.trans hm)] at this
            have HK := Hid.mk kk
            clear hA hB hm ho hwl hqa hwi kk hH
            go_wp2_with fail
            refine H21.out.mono ?_
            rintro e w4 ⟨rfl, rfl⟩
            go_wp2_with fail
            refine H24.out.mono ?_
            rintro e w4 ⟨v4, rfl, qs4, hm4, hO4, k4⟩
            go_wp2_with fail
            refine (H25.out _ _ _ k4 hO4 hm4).mono ?_
            rintro e w5 ⟨rfl, k5⟩
            go_wp2_with fail
            go_ret
            exact ⟨rfl, (HK.out.trans k4 (by simp)).trans k5 (by simp)⟩
end
end Go.Proofs.Ytpcliempoagpoaa
