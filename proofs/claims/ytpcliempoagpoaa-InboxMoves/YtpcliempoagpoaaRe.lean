/-
  read: the letter that a Reader's bytes begin with.
-/
import Derived.Test.YtpcliempoagpoaaLs
namespace Go.Proofs.Ytpcliempoagpoaa
open Go.RowKit
set_option linter.unusedVariables false
section
variable {w : World}
set_option maxRecDepth 100000 in
set_option maxHeartbeats 1000000 in
theorem read34 (p : Nat) (v : Value) (l : List UInt8) (bad : Bool) (hR : IsR 92 w p v l bad) (hv : ∀ g, v.ownBlock = some g → g < w.heap.size) : Calls Try.prog 44 #[.pointer (some ⟨p, 0, none⟩)] w fun e w' => LetAt 92 w p v l bad e w' := by
  go_enter Try.func44, Try.ntmps44
  go_wp2_with fail
  obtain ⟨W0, e0, k0, hz0, hb0, hb1⟩ := box2 w (.cells #[.string ⟨#[]⟩, .int .u64 0, .int .i64 0, .slice none 0 0] 34) (.cells #[.string ⟨#[]⟩, .int .u64 0, .int .i64 0, .slice none 0 0] 34)
  rw [e0]
  clear e0
  have s0 : LS 92 w p v w.heap.size (w.heap.size + 1) W0 l bad ⟨[], 0, 0, []⟩ none 0 := ⟨⟨v, hR.kept k0 (by simp) (by simp), Within.refl v⟩, hb1, hb0, OwnsJ.nil W0, fun g hg => by simp [Value.ownBlock] at hg, k0.mono (by simp), hR.lt, hv, by omega, by omega, by omega⟩
  clear hb0 hb1 k0 hz0
  obtain ⟨vi, hRi, hVi⟩ := s0.rd
  refine (rtext_any p vi l bad W0 hRi).mono ?_
  rintro e w1 ⟨rfl, h1⟩
  have s1 := s0.next hVi h1
  clear h1 hRi hVi s0
  obtain ⟨c0, c1, c2, c3⟩ := cells4 s1.lbox
  obtain ⟨f0, f1, f2, f3⟩ := free4 s1.lbox
  have H1 := Hid.mk (s1.set0 (rtext l bad).1)
  clear s1
  go_wp2_with fail
  obtain ⟨vi, hRi, hVi⟩ := H1.out.rd
  refine (rnum_any p vi _ _ _ hRi).mono ?_
  rintro e w2 ⟨rfl, h2⟩
  have s2 := H1.out.next hVi h2
  clear h2 hRi hVi H1 c0 c1 c2 c3 f0 f1 f2 f3
  obtain ⟨c0, c1, c2, c3⟩ := cells4 s2.lbox
  obtain ⟨f0, f1, f2, f3⟩ := free4 s2.lbox
  have H2 := Hid.mk (s2.set1 (rnum (rtext l bad).2.1 (rtext l bad).2.2).1)
  clear s2
  go_wp2_with fail
  obtain ⟨vi, hRi, hVi⟩ := H2.out.rd
  refine (rint_any p vi _ _ _ hRi).mono ?_
  rintro e w3 ⟨rfl, h3⟩
  have s3 := H2.out.next hVi h3
  clear h3 hRi hVi H2 c0 c1 c2 c3 f0 f1 f2 f3
  obtain ⟨c0, c1, c2, c3⟩ := cells4 s3.lbox
  obtain ⟨f0, f1, f2, f3⟩ := free4 s3.lbox
  have H3 := Hid.mk (s3.set2 (unfold (rnum (rnum (rtext l bad).2.1 (rtext l bad).2.2).2.1 (rnum (rtext l bad).2.1 (rtext l bad).2.2).2.2).1))
  clear s3
  go_wp2_with fail
  obtain ⟨vi, hRi, hVi⟩ := H3.out.rd
  refine (rnum_any p vi _ _ _ hRi).mono ?_
  rintro e w4 ⟨rfl, h4⟩
  have s4 := H3.out.next hVi h4
  clear h4 hRi hVi H3 c0 c1 c2 c3 f0 f1 f2 f3
  change LS 92 w p v w.heap.size (w.heap.size + 1) w4 (rhead l bad).rest (rhead l bad).bad ⟨(rhead l bad).fr, (rhead l bad).ser, (rhead l bad).kind, []⟩ none 0 at s4
  have hN : (rnum (rnum (rnum (rtext l bad).2.1 (rtext l bad).2.2).2.1 (rnum (rtext l bad).2.1 (rtext l bad).2.2).2.2).2.1 (rnum (rnum (rtext l bad).2.1 (rtext l bad).2.2).2.1 (rnum (rtext l bad).2.1 (rtext l bad).2.2).2.2).2.2).1 = (rhead l bad).n := rfl
  rw [hN]
  clear hN
  generalize hh : rhead l bad = h at s4
  have HH := Hid.mk hh
  clear hh
  obtain ⟨c0, c1, c2, c3⟩ := cells4 s4.lbox
  obtain ⟨d0, d1, d2, d3⟩ := cells4 s4.rbox
  obtain ⟨g0, g1, g2, g3⟩ := free4 s4.rbox
  by_cases hn : 4 < h.n
  · have hnI : (4 : Int) < (h.n : Int) := by omega
    go_wp2_with fail
    obtain ⟨W5, e5, k5, hb5, -⟩ := put4 s4.rbox (.string ⟨#[]⟩) (.int .u64 0) (.int .i64 0) (.slice none 0 0)
    rw [e5]
    clear e5
    refine bodyPost_ret (results_cell_row2 (p := 2) (u := 3) (ty := 34) rfl _ _ w.heap.size 34 _ (0, 0) _ rfl hb5 Try.underlying34 rfl (by kernel_rfl) _ rfl) rfl ?_
    exact s4.fail k5 (by unfold rlet; rw [HH.out]; dsimp only; rw [if_pos hn])
  · have hnI : ((4 : Int) < (h.n : Int)) = False := eq_false (by omega)
    clear d0 d1 d2 d3 g0 g1 g2 g3 c0 c1 c2 c3
    go_wp2_with fail
    go_loopw [21] (fun i wr => ∃ (j : Nat) (a : Option Addr) (c : Nat), i = .int .u64 (j : Int) ∧ j ≤ h.n ∧ Hid (LS 92 w p v w.heap.size (w.heap.size + 1) wr (rints j h.rest h.bad).2.1 (rints j h.rest h.bad).2.2 ⟨h.fr, h.ser, h.kind, (rints j h.rest h.bad).1⟩ a c)) (fun i _ => h.n - (intOf i).toNat)
    case atStart => exact ⟨0, none, 0, rfl, by omega, Hid.mk s4⟩
    case round =>
      obtain ⟨j, a, c, rfl, hj, hs⟩ := hrel
      by_cases hlt : j < h.n
      · have hjI : (j : Int) < (h.n : Int) := by omega
        have hjl := rints_length j h.rest h.bad
        have sd := hs.out.drew
        obtain ⟨c0, c1, c2, c3⟩ := cells4 sd.lbox
        obtain ⟨vi, hRi, hVi⟩ := sd.rd
        have hC := rint_any p vi _ _ _ hRi
        have HS := Hid.mk sd
        have HV := Hid.mk hVi
        have HL := Hid.mk hjl
        clear c0 c1 c2 sd hRi hVi hs hjl
        generalize hra : rints j h.rest h.bad = r at hC HS HL c3
        have HR := Hid.mk hra
        clear hra
        go_wp2_with fail
        go_region_law (first | (refine step_append_run 32 (.tmp 24) (.tmp 27) (by rfl) (by rfl) _ _ (by rfl) (by rfl) hrun ?_) | (go_simp; go_at_call 58; refine Calls.mono hC ?_; rintro e w5 ⟨rfl, h5⟩; obtain ⟨a6, c6, w6, hrun, q3, qf, s6⟩ := (HS.out.next HV.out h5).app (unfold (rnum r.2.1 r.2.2).1) (by show r.1.length ≤ 100000; rw [HL.out]; omega); have S6 := Hid.mk s6; clear s6; have q5 := (cells4 (HS.out.next HV.out h5).lbox).2.2.2; have q6 := ((Kept.refl [] w5).alloc (.cells #[.int .i64 (unfold (rnum r.2.1 r.2.2).1)] 2)).cell_eq q5))
        all_goals
          clear hC q3 qf q5 q6 hrun c3
          go_wp2
          go_roundw
          case rel =>
            refine ⟨j + 1, a6, c6, by go_num, by omega, Hid.mk ?_⟩
            rw [rints_snoc, HR.out]
            exact S6.out
          case measure => simp [intOf]; omega
      · obtain rfl : j = h.n := by omega
        have HL : Hid (rlet l bad = if (rints h.n h.rest h.bad).2.2 = true ∨ 40 < h.fr.length then (none, (rints h.n h.rest h.bad).2.1, (rints h.n h.rest h.bad).2.2) else (some ⟨h.fr, h.ser, h.kind, (rints h.n h.rest h.bad).1⟩, (rints h.n h.rest h.bad).2.1, (rints h.n h.rest h.bad).2.2)) := by
          show _ = _
          unfold rlet
          rw [HH.out]
          dsimp only
          rw [if_neg hn]
        have hrl := rints_length h.n h.rest h.bad
        generalize rints h.n h.rest h.bad = r at hs HL hrl
        have hfm : (⟨h.fr, h.ser, h.kind, r.1⟩ : Lt).formed = decide (h.fr.length ≤ 40) := by
          unfold Lt.formed
          dsimp only
          rw [hrl]
          simp
          omega
        have HF := fun W => formed13 (w := W) ⟨h.fr, h.ser, h.kind, r.1⟩ a c
        rw [hfm] at HF
        have HF := Hid.mk HF
        clear hfm
        obtain ⟨vi, hRi, hVi⟩ := hs.out.rd
        have hB := bad_any p vi _ _ _ hRi
        have HV := Hid.mk hVi
        clear hRi hVi
        obtain ⟨c0, c1, c2, c3⟩ := cells4 hs.out.lbox
        obtain ⟨d0, d1, d2, d3⟩ := cells4 hs.out.rbox
        obtain ⟨g0, g1, g2, g3⟩ := free4 hs.out.rbox
        have HR := Hid.mk hrl
        clear hrl
        go_wp2_with fail
        refine Calls.mono hB ?_
        rintro e w5 ⟨rfl, rfl⟩
        cases hrb : r.2.2 with
        | true =>
          have HB := Hid.mk hrb
          go_wp2_with fail
          obtain ⟨W5, e5, k5, hb5, -⟩ := put4 hs.out.rbox (.string ⟨#[]⟩) (.int .u64 0) (.int .i64 0) (.slice none 0 0)
          rw [e5]
          clear e5
          refine bodyPost_ret (results_cell_row2 (p := 2) (u := 3) (ty := 34) rfl _ _ w.heap.size 34 _ (0, 0) _ rfl hb5 Try.underlying34 rfl (by kernel_rfl) _ rfl) rfl ?_
          exact hs.out.fail k5 (by rw [HL.out, if_pos (.inl HB.out)])
        | false =>
          have HB := Hid.mk hrb
          clear hrb
          go_wp2_with fail
          refine (HF.out _).mono ?_
          rintro e w6 ⟨rfl, k6⟩
          have s6 := hs.out.kept0 k6
          clear c0 c1 c2 c3 d0 d1 d2 d3 g0 g1 g2 g3
          obtain ⟨c0, c1, c2, c3⟩ := cells4 s6.lbox
          obtain ⟨d0, d1, d2, d3⟩ := cells4 s6.rbox
          obtain ⟨g0, g1, g2, g3⟩ := free4 s6.rbox
          have S6 := Hid.mk s6
          clear s6
          by_cases hf : h.fr.length ≤ 40
          · have hfd : decide (h.fr.length ≤ 40) = true := by simp [hf]
            rw [hfd]
            go_wp2_with fail
            obtain ⟨W5, e5, k5, hb5, -⟩ := put4 S6.out.rbox (Sv h.fr) (.int .u64 (h.ser : Int)) (.int .i64 h.kind) (.slice a r.1.length c)
            rw [e5]
            clear e5
            refine bodyPost_ret (results_cell_row2 (p := 2) (u := 3) (ty := 34) rfl _ _ w.heap.size 34 _ (0, 0) _ rfl hb5 Try.underlying34 rfl (by kernel_rfl) _ rfl) rfl ?_
            exact S6.out.done k5 (by rw [HL.out, if_neg (by rw [HB.out]; simp; omega)])
          · have hfd : decide (h.fr.length ≤ 40) = false := by simp [hf]
            rw [hfd]
            go_wp2_with fail
            obtain ⟨W5, e5, k5, hb5, -⟩ := put4 S6.out.rbox (.string ⟨#[]⟩) (.int .u64 0) (.int .i64 0) (.slice none 0 0)
            rw [e5]
            clear e5
            refine bodyPost_ret (results_cell_row2 (p := 2) (u := 3) (ty := 34) rfl _ _ w.heap.size 34 _ (0, 0) _ rfl hb5 Try.underlying34 rfl (by kernel_rfl) _ rfl) rfl ?_
            exact S6.out.fail k5 (by rw [HL.out, if_pos (.inr (by omega))])
end
end Go.Proofs.Ytpcliempoagpoaa
