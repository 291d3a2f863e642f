/-
  PagesNames answers true.
-/
import Derived.Test.YtilelklcfgemoaaRf
namespace Go.Proofs.Ytilelklcfgemoaa
open Go.RowKit
set_option linter.unusedVariables false

set_option maxRecDepth 100000 in
set_option maxHeartbeats 1000000 in
theorem names_walk (w : World) (v : Value) (ls : List OpL) (hv : HoldsO w v ls) (k : Int) (hk1 : -9223372036854775808 ≤ k) (hk2 : k ≤ 9223372036854775807) :
    Calls Try.prog 4 #[v, .int .i64 k] w fun e w' => e = .returned (.bool true) ∧ Kept [] w w' := by
  have HV := Hid.mk hv
  obtain ⟨a1, c1, rfl, hc1, hm1, -⟩ := hv
  have hm1' : c1 ≤ 9223372036854775807 := hm1
  clear hm1
  obtain ⟨n, hn⟩ : ∃ n, Hid (ls.length = n) := ⟨_, rfl⟩
  rw [hn.out] at hc1 ⊢
  go_enter Try.func4, Try.ntmps4
  go_wp2_with fail
  refine (awake_any w).mono ?_
  rintro e w0 ⟨rfl, k0⟩
  by_cases hbig : 20 < n
  · have hgt : (20 : Int) < (n : Int) := by omega
    go_wp2_with fail
    refine (awake_any w0).mono ?_
    rintro e w2 ⟨rfl, k2⟩
    have hK := k0.trans k2 (by simp)
    clear k0 k2
    go_wp2
    go_ret
    exact ⟨rfl, hK⟩
  · have hgt : ¬ (20 : Int) < (n : Int) := by omega
    have hnew := sy_new k0 100 10 80 (by omega) (by omega) (by omega)
    change Calls Try.prog 10 #[.int .i64 100] w0 _ at hnew
    go_wp2_with fail
    refine hnew.mono ?_
    rintro e w1 ⟨q, rfl, k1, hop'⟩
    have hop := hop' w1 (Kept.refl _ _)
    change Calls Try.prog 11 #[.pointer (some ⟨q, 0, none⟩), .int .i64 10, .int .i64 80, .slice none 0 0] w1 _ at hop
    clear hnew hop' k1 k0
    go_wp2_with fail
    refine hop.mono ?_
    rintro e w2 ⟨p, fl, rfl, hfl, hS, -⟩
    have hC : Calm ⟨100, [], -1, false⟩ (26 * 0) := ⟨rfl, rfl, by simp⟩
    have hBa : Bare ⟨100, [], -1, false⟩ fl := fun x hx => by simp at hx
    clear hop
    go_wp2_with fail
    go_loopw [8, 42] (fun u i wr => ∃ (j : Nat) (s : St) (L : List Ent) (fl : List Nat), i = .int .i64 (j : Int) ∧ j ≤ n ∧ Sy w wr q p s 10 80 L fl u.ownBlock.toList ∧ Calm s (26 * j) ∧ Bare s fl ∧ OwnsI wr u (L.map (·.1)) ∧ (∀ g, u.ownBlock = some g → w.heap.size ≤ g) ∧ L.length ≤ j) (fun _ i _ => n - (numOf i).toNat)
    case atStart => exact ⟨0, _, [], fl, rfl, Nat.zero_le _, hS, hC, hBa, OwnsI.nil _, by simp [Value.ownBlock], Nat.le_refl _⟩
    case round =>
      clear hS hC hBa hfl
      obtain ⟨j, s, L, fl, rfl, hj, hS, hC, hBa, hO, hFr, hLj⟩ := hrel
      obtain ⟨av, cv, rfl, -, -⟩ := hO.form
      rw [List.length_map] at hO hS hFr ⊢
      obtain ⟨m, hm⟩ : ∃ m, Hid (L.length = m) := ⟨_, rfl⟩
      rw [hm.out] at hO hS hFr hLj ⊢
      by_cases hjn : j < n
      · have hlt : (j : Int) < (n : Int) := by omega
        obtain ⟨x, hx⟩ : ∃ x, ls[j]? = some x := ⟨ls[j]'(by have := hn.out; omega), by simp⟩
        obtain ⟨b, o, cap', ab, cb, hve, d0, d1, d2, hrx, hxo⟩ := HV.out.at j x hx hS.k
        rw [hn.out] at hve
        injection hve with e1 e2 e3
        subst e1 e3
        have htx := text_any x hxo ab cb wr (hrx.kept hS.k (by simp))
        clear hx hrx hxo
        go_wp2_with fail
        refine htx.mono ?_
        rintro e w3 ⟨v3, rfl, hO3, k3, hF3⟩
        clear htx d0 d1 d2
        obtain ⟨a3, c3, rfl⟩ := hO3.form
        obtain ⟨T, hT⟩ : ∃ T, Hid ((textL x).length = T) := ⟨_, rfl⟩
        have hT6 : T ≤ 6000 := by have := textL_len x; have := hT.out; omega
        have hTk := bks_text hT6
        rw [hT.out] at hO3 hF3 ⊢
        have hS3 := hS.more (Y := (Value.slice a3 T c3).ownBlock.toList) k3 (fun y hy => hF3 y (by simpa using hy))
        have hO' := hO.kept k3 (by simp)
        by_cases hfit : bks T ≤ fl.length
        · have hput := sy_put hS3 a3 T c3 (textL x) hT.out.symm hO3.reads (fun g hg => .inl (by simp only [List.mem_append, Option.mem_toList]; exact .inl hg)) (fun y hy => by
            simp only [List.mem_append, Option.mem_toList] at hy
            rcases hy with hy | hy
            · exact hO3.lt hy
            · exact hO'.lt hy) (by omega) hfit hC.1 (.inl (by rw [hC.2.1]; omega)) (by have := hC.2.2; omega)
          have hnd : fl.Nodup := (List.nodup_append.1 hS.ok.nodup).2.1
          clear hS hO
          go_wp2_with fail
          refine hput.mono ?_
          rintro e w4 ⟨nm, vs, fu, rfl, -, hvs, hvt, hfu, hS4, kx⟩
          have hC4 := Hid.mk (hC.more vs fu hfu (k := 26) (by omega))
          have hB4 := Hid.mk (hBa.put (bks T) vs hnd hvt fu)
          have hO4 : OwnsI w4 (.slice av m cv) (L.map (·.1)) := hO'.keptX kx (fun g hg => by simp only [List.mem_append, Option.mem_toList]; exact .inr hg)
          have hS4' := hS4.less (Y := (Value.slice av m cv).ownBlock.toList) (fun y hy => List.mem_append.2 (.inr hy))
          have hml : (L.map (·.1)).length = m := by rw [List.length_map]; exact hm.out
          obtain ⟨ad, cd, w5, hrun, hO5, k5, hN5⟩ := append_int hO4 nm (by rw [hml]; omega)
          rw [hml] at hrun hO5 hN5
          have hS5 := Hid.mk (hS4'.turn2 (Y := (Value.slice ad (m + 1) cd).ownBlock.toList) k5 (fun y hy => hy) (fun y hy => hFr y (by simpa using hy)) (fun y hy => by
            rw [Option.mem_toList] at hy
            rcases hN5 y hy with h | h
            · exact .inl (by rw [Option.mem_toList]; exact h)
            · exact .inr h))
          have hF5 : Hid (∀ g, (Value.slice ad (m + 1) cd).ownBlock = some g → w.heap.size ≤ g) := fun g hg => by
            rcases hN5 g hg with h | h
            · exact hFr g h
            · have := hS4.k.size; omega
          have HO5 := Hid.mk hO5
          clear hput hC hBa hvs hvt hfu hS4 hS4' kx hO4 hO5 k5 hN5 hO' hO3 hF3 k3 hS3 hFr hnd
          go_wp2_with (at_builtin; refine wpList_append_run 36 _ _ rfl rfl _ _ rfl rfl _ _ hrun ?_)
          exact ⟨⟨j + 1, _, _, _, by go_num, by omega, hS5.out, by rw [Nat.mul_add]; exact hC4.out, hB4.out, by rw [List.map_append]; exact HO5.out, hF5.out, by rw [List.length_append, hm.out, List.length_singleton]; omega⟩, by simp [numOf]; omega⟩
        · have hput := sy_put_full hS3 a3 T c3 (by omega) (by omega)
          have HS3 := Hid.mk (hS3.less (Y := (Value.slice av m cv).ownBlock.toList) (fun y hy => List.mem_append.2 (.inr hy)))
          have HO' := Hid.mk hO'
          have HC := Hid.mk hC
          have HB := Hid.mk hBa
          have HF := Hid.mk hFr
          clear hS hO hO' hS3 hC hBa hFr hO3 hF3 k3
          go_wp2_with fail
          refine hput.mono ?_
          rintro e w4 ⟨rfl, rfl⟩
          clear hput
          go_wp2_with fail
          exact ⟨⟨j + 1, _, _, _, by go_num, by omega, HS3.out, by have h := HC.out; exact ⟨h.1, h.2.1, by have := h.2.2; omega⟩, HB.out, HO'.out, HF.out, by rw [hm.out]; omega⟩, by simp [numOf]; omega⟩
      · have hni : ¬ (j : Int) < (n : Int) := by omega
        have hm20 : m ≤ 20 := by omega
        have hfr := sy_free hS
        go_wp2_with fail
        refine hfr.mono ?_
        rintro e w3 ⟨v12, ns, rfl, hO12, hR12, k3, -⟩
        obtain ⟨a12, c12, rfl, h121, h122⟩ := hO12.form
        have HS := Hid.mk (hS.kept k3)
        have HO := Hid.mk (hO.kept k3 (by simp))
        have hml : (L.map (·.1)).length = m := by rw [List.length_map]; exact hm.out
        have hC1 := hC.1
        have HB := Hid.mk hBa
        obtain ⟨-, -, hf1, hf2⟩ : True ∧ True ∧ m ≤ cv ∧ cv ≤ 9223372036854775807 := by
          obtain ⟨a', c', h1, h2, h3⟩ := hO.form
          rw [hml] at h1 h2
          injection h1 with e1 e2 e3
          subst e3
          exact ⟨trivial, trivial, h2, h3⟩
        clear hfr hS hO hFr hBa hC k3 hLj
        obtain ⟨f, hf⟩ : ∃ f, Hid (ns.length = f) := ⟨_, rfl⟩
        rw [hf.out] at hO12 h121 ⊢
        have hf80 : f ≤ 80 := by
          have h1 := HS.out.ok.length
          have h2 := hR12.1.length_eq
          have h3 := hf.out
          omega
        rcases Nat.eq_zero_or_pos f with hf0 | hf0
        case' inl =>
          have t0 : ¬ (0 : Int) < (f : Int) := by omega
          clear hf0
          obtain ⟨wA, hwA⟩ : ∃ wA, Hid (w3 = wA) := ⟨_, rfl⟩
          have kA : Kept [] w3 wA := hwA.out ▸ Kept.refl [] w3
          rw [hwA.out]
          clear hwA
        case' inr =>
          have t0 : (0 : Int) < (f : Int) := by omega
          obtain ⟨ix, hix, hixe⟩ := idx_of k f hf0 (by omega)
          obtain ⟨b, hb⟩ : ∃ b, ns[ix]? = some b := ⟨ns[ix]'(by have := hf.out; omega), by simp⟩
          have hbfl : b ∈ fl := hR12.1.mem_iff.1 (List.mem_of_getElem? hb)
          have hbar := HS.out.ok.mem (List.mem_append.2 (.inr hbfl))
          obtain ⟨g12, c12', hve, hcb⟩ := hO12.at ix b hb
          rw [hf.out] at hve
          injection hve with e1 e2 e3
          subst e1 e3
          have tix : (ix : Int) < (f : Int) := by omega
          have k4 := kept_alloc w3 (.cells #[.int .i64 (b : Int)] 3)
          have hrf := sy_refuse (HS.out.kept k4) hC1 [] (List.nil_sublist _) (by simp) b (HB.out.bad hbfl 10 80) (by omega) (some ⟨w3.heap.size, 0, none⟩) 1 1 rfl (readsI_one w3 b)
          change Calls Try.prog 11 #[.pointer (some ⟨q, 0, none⟩), .int .i64 10, .int .i64 80, .slice (some ⟨w3.heap.size, 0, none⟩) 1 1] _ _ at hrf
          clear hf0 hb hbfl hbar e2
          go_wp2_with fail
          refine hrf.mono ?_
          rintro e wA ⟨rfl, kA'⟩
          have kA := k4.trans kA' (by simp)
          clear hrf k4 kA' hcb hixe tix hix
        all_goals
          clear hO12 hR12
          rcases Nat.eq_zero_or_pos m with hm0 | hm0
          case' inl =>
            have u0 : ¬ (0 : Int) < (m : Int) := by omega
            clear hm0
            obtain ⟨wG, hwG⟩ : ∃ wG, Hid (wA = wG) := ⟨_, rfl⟩
            have kG : Kept [] w3 wG := hwG.out ▸ kA
            rw [hwG.out]
            clear hwG
          case' inr =>
            have u0 : (0 : Int) < (m : Int) := by omega
            obtain ⟨x0, hx0⟩ : ∃ x0, L[0]? = some x0 := ⟨L[0]'(by have := hm.out; omega), by simp⟩
            have hx0L : x0 ∈ L := List.mem_of_getElem? hx0
            obtain ⟨g8, c8, hve, hc8⟩ := HO.out.at 0 x0.1 (by simp [hx0])
            rw [hml] at hve
            injection hve with e1 e2 e3
            subst e1 e3
            have hg8 : g8 < w3.heap.size := HO.out.lt rfl
            have hx0s : x0.1 < 65536 := (HS.out.ok.lies x0 hx0L).small _ (HS.out.ok.self hx0L)
            have hrefuse : ∀ W ad cd, Kept [] w3 W → ReadsI W (.slice ad (m + 1) cd) (L.map (·.1) ++ [x0.1]) → Calls Try.prog 11 #[.pointer (some ⟨q, 0, none⟩), .int .i64 10, .int .i64 80, .slice ad (m + 1) cd] W fun e w' => e = .returned (.tuple #[.pointer none, .int .i64 2]) ∧ Kept [] W w' := fun W ad cd kW hW =>
              sy_refuse (HS.out.kept kW) hC1 L (List.Sublist.refl _) (by have := hm.out; omega) x0.1 (.inl (by rw [ets_names]; exact List.mem_map.2 ⟨x0, hx0L, rfl⟩)) hx0s ad (m + 1) cd (by rw [hm.out]) hW
            have kD := kA.drew
            have S0 : wA.drew.cell? ⟨g8, 0, none⟩ = some (.int .i64 (x0.1 : Int)) := by rw [kD.cell hg8 (by simp)]; exact hc8
            clear hm0 e2 hc8
            go_wp2_with fail
            refine wp_region_held_drew (S := fun w' => w'.cell? ⟨g8, 0, none⟩ = some (.int .i64 (x0.1 : Int))) (by kernel_rfl) S0 (fun _ => ?_)
            generalize wA.drew = wD at S0 kD ⊢
            have hD0 := kD.size
            refine wpAnyH_take (i := 0) (v := .pointer (some ⟨q, 0, none⟩)) rfl (by kernel_rfl) (by kernel_rfl) (by kernel_rfl) (fun _ _ _ h => h) (Or.inl ⟨by rfl, fun w hS => by have hS' : w.cell? ⟨g8, 0, none⟩ = some (.int .i64 (x0.1 : Int)) := hS; go_simp⟩) S0 ?_
            go_simp
            refine wpAnyH_take (i := 2) (v := .slice (some ⟨g8, 0, none⟩) m cv) rfl (by kernel_rfl) (by kernel_rfl) (by kernel_rfl) (fun _ _ _ h => h) (Or.inl ⟨by rfl, fun w hS => by have hS' : w.cell? ⟨g8, 0, none⟩ = some (.int .i64 (x0.1 : Int)) := hS; go_simp⟩) S0 ?_
            go_simp
            refine wpAnyH_take (i := 4) (v := .slice (some ⟨g8, 0, none⟩) m cv) rfl (by kernel_rfl) (by kernel_rfl) (by kernel_rfl) (fun _ _ _ h => h) (Or.inl ⟨by rfl, fun w hS => by have hS' : w.cell? ⟨g8, 0, none⟩ = some (.int .i64 (x0.1 : Int)) := hS; go_simp⟩) S0 ?_
            go_simp
            refine wpAnyH_take (i := 5) (v := .pointer (some ⟨g8, 0, none⟩)) rfl (by kernel_rfl) (by kernel_rfl) (by kernel_rfl) (fun _ _ _ h => h) (Or.inl ⟨by rfl, fun w hS => by have hS' : w.cell? ⟨g8, 0, none⟩ = some (.int .i64 (x0.1 : Int)) := hS; go_simp⟩) S0 ?_
            go_simp
            refine wpAnyH_take (i := 6) (v := .int .i64 (x0.1 : Int)) rfl (by kernel_rfl) (by kernel_rfl) (by kernel_rfl) (fun _ _ _ h => h) (Or.inl ⟨by rfl, fun w hS => by have hS' : w.cell? ⟨g8, 0, none⟩ = some (.int .i64 (x0.1 : Int)) := hS; go_simp⟩) S0 ?_
            go_simp
            refine wpAnyH_ready (rs := [1, 7]) (by kernel_rfl) (by simp) (AllReadyH.cons rfl (fun K hK => ?_) <| AllReadyH.cons rfl (fun K hK => ?_) <| AllReadyH.nil)
            rotate_left
            have kOa := kept_alloc wD (.cells #[.int .i64 (x0.1 : Int)] 3)
            have hIa := ownsI_single wD x0.1
            have sza : Hid ((wD.alloc (.cells #[.int .i64 (x0.1 : Int)] 3)).heap.size = wD.heap.size + 1) := Hid.mk (by simp)
            have Sa : (wD.alloc (.cells #[.int .i64 (x0.1 : Int)] 3)).cell? ⟨g8, 0, none⟩ = some (.int .i64 (x0.1 : Int)) := by rw [kOa.cell (World.block_lt_of_cell? _ _ S0) (by simp)]; exact S0
            go_simp
            refine hK.out _ _ Sa (fun _ => ?_)
            clear hK K
            go_simp
            generalize wD.alloc (.cells #[.int .i64 (x0.1 : Int)] 3) = wa at kOa hIa sza Sa ⊢
            have kka := kD.trans kOa (by simp)
            refine wpAnyH_ready (rs := [1]) (by kernel_rfl) (by simp) (AllReadyH.cons rfl (fun K hK => ?_) <| AllReadyH.nil)
            have kEb := kept_alloc wa (.cells #[] 3)
            have hEb := ownsI_empty wa
            have szb : Hid ((wa.alloc (.cells #[] 3)).heap.size = wa.heap.size + 1) := Hid.mk (by simp)
            have Sb : (wa.alloc (.cells #[] 3)).cell? ⟨g8, 0, none⟩ = some (.int .i64 (x0.1 : Int)) := by rw [kEb.cell (World.block_lt_of_cell? _ _ Sa) (by simp)]; exact Sa
            go_simp
            refine hK.out _ _ Sb (fun _ => ?_)
            clear hK K
            go_simp
            generalize wa.alloc (.cells #[] 3) = wb at kEb hEb szb Sb ⊢
            have kkb := kka.trans kEb (by simp)
            refine wpAnyH_ready (rs := [3]) (by kernel_rfl) (by simp) (AllReadyH.cons rfl (fun K hK => ?_) <| AllReadyH.nil)
            obtain ⟨adc, cdc, wc, hrunc, hAc, kAc, hNc⟩ := app_ints hEb ((HO.out.kept kkb (by simp)).reads) (by rw [hml]; simp; omega)
            rw [List.length_nil, hml] at hrunc hAc hNc
            rw [List.nil_append] at hAc
            rw [Nat.zero_add] at hrunc hAc hNc
            have Sc : wc.cell? ⟨g8, 0, none⟩ = some (.int .i64 (x0.1 : Int)) := by rw [kAc.cell (World.block_lt_of_cell? _ _ Sb) (by simp [Value.ownBlock]; have := sza.out; omega)]; exact Sb
            refine step_append_run 36 (.tmp 90) (.tmp 91) (by rfl) (by rfl) _ _ (by rfl) (by rfl) hrunc (hK.out _ _ Sc (fun _ => ?_))
            clear hK K
            go_simp
            have kkc := kkb.trans kAc (fun z hz => .inr (by simp [Value.ownBlock] at hz; have := sza.out; omega))
            have fAc : ∀ g, (Value.slice adc m cdc).ownBlock = some g → w3.heap.size ≤ g := fun g hg => by
              rcases hNc g hg with h | h
              · simp [Value.ownBlock] at h; have := sza.out; omega
              · exact Nat.le_trans kkb.size h
            obtain ⟨adZ, cdZ, wZ, hrunZ, hZ, kZ, hNZ⟩ := app_ints hAc (((hIa.kept kEb (by simp)).kept kAc (fun g hg => by simp [Value.ownBlock] at hg ⊢; have := sza.out; omega)).reads) (by rw [hml]; simp; omega)
            rw [hml] at hrunZ hZ hNZ
            have SZ : wZ.cell? ⟨g8, 0, none⟩ = some (.int .i64 (x0.1 : Int)) := by rw [kZ.cell (World.block_lt_of_cell? _ _ Sc) (fun hm => by have := fAc g8 (by simpa using hm); omega)]; exact Sc
            have kkZ := kkc.trans kZ (fun z hz => .inr (fAc z (by simpa using hz)))
            refine wpAnyH_ready (rs := [8]) (by kernel_rfl) (by simp) (AllReadyH.cons rfl (fun K hK => ?_) <| AllReadyH.nil)
            refine step_append_run 36 (.tmp 92) (.tmp 96) (by rfl) (by rfl) _ _ (by rfl) (by rfl) hrunZ (hK.out _ _ SZ (fun _ => ?_))
            clear hK K
            go_simp
            have hrf := hrefuse wZ adZ cdZ kkZ hZ.reads
            refine wpAnyH_ready (rs := [9]) (by kernel_rfl) (by simp) (AllReadyH.cons rfl (fun K hK => ?_) <| AllReadyH.nil)
            go_simp
            refine hrf.mono ?_
            rintro e wB ⟨rfl, kB⟩
            have SB : wB.cell? ⟨g8, 0, none⟩ = some (.int .i64 (x0.1 : Int)) := by rw [kB.cell (World.block_lt_of_cell? _ _ SZ) (by simp)]; exact SZ
            refine hK.out _ _ SB (fun _ => ?_)
            clear hK K
            go_simp
            refine wpAnyH_take (i := 10) (v := .tuple #[.pointer none, .int .i64 2]) rfl (by kernel_rfl) (by kernel_rfl) (by kernel_rfl) (fun _ _ _ h => h) (Or.inl ⟨by rfl, fun w hS => by have hS' : w.cell? ⟨g8, 0, none⟩ = some (.int .i64 (x0.1 : Int)) := hS; go_simp⟩) SB ?_
            go_simp
            refine wpAnyH_take (i := 11) (v := .pointer none) rfl (by kernel_rfl) (by kernel_rfl) (by kernel_rfl) (fun _ _ _ h => h) (Or.inl ⟨by rfl, fun w hS => by have hS' : w.cell? ⟨g8, 0, none⟩ = some (.int .i64 (x0.1 : Int)) := hS; go_simp⟩) SB ?_
            go_simp
            refine wpAnyH_take (i := 12) (v := .int .i64 2) rfl (by kernel_rfl) (by kernel_rfl) (by kernel_rfl) (fun _ _ _ h => h) (Or.inl ⟨by rfl, fun w hS => by have hS' : w.cell? ⟨g8, 0, none⟩ = some (.int .i64 (x0.1 : Int)) := hS; go_simp⟩) SB ?_
            go_simp
            refine wpAnyH_take (i := 13) (v := .pointer none) rfl (by kernel_rfl) (by kernel_rfl) (by kernel_rfl) (fun _ _ _ h => h) (Or.inl ⟨by rfl, fun w hS => by have hS' : w.cell? ⟨g8, 0, none⟩ = some (.int .i64 (x0.1 : Int)) := hS; go_simp⟩) SB ?_
            go_simp
            refine wpAnyH_take (i := 14) (v := .int .i64 2) rfl (by kernel_rfl) (by kernel_rfl) (by kernel_rfl) (fun _ _ _ h => h) (Or.inl ⟨by rfl, fun w hS => by have hS' : w.cell? ⟨g8, 0, none⟩ = some (.int .i64 (x0.1 : Int)) := hS; go_simp⟩) SB ?_
            go_simp
            refine wpAnyH_done (by kernel_rfl) ?_ _
            have kBB := kkZ.trans kB (by simp)
            rotate_left
            have kEa := kept_alloc wD (.cells #[] 3)
            have hEa := ownsI_empty wD
            have sza : Hid ((wD.alloc (.cells #[] 3)).heap.size = wD.heap.size + 1) := Hid.mk (by simp)
            have Sa : (wD.alloc (.cells #[] 3)).cell? ⟨g8, 0, none⟩ = some (.int .i64 (x0.1 : Int)) := by rw [kEa.cell (World.block_lt_of_cell? _ _ S0) (by simp)]; exact S0
            go_simp
            refine hK.out _ _ Sa (fun _ => ?_)
            clear hK K
            go_simp
            generalize wD.alloc (.cells #[] 3) = wa at kEa hEa sza Sa ⊢
            have kka := kD.trans kEa (by simp)
            refine wpAnyH_ready (rs := [3, 7]) (by kernel_rfl) (by simp) (AllReadyH.cons rfl (fun K hK => ?_) <| AllReadyH.cons rfl (fun K hK => ?_) <| AllReadyH.nil)
            rotate_left
            have kOb := kept_alloc wa (.cells #[.int .i64 (x0.1 : Int)] 3)
            have hIb := ownsI_single wa x0.1
            have szb : Hid ((wa.alloc (.cells #[.int .i64 (x0.1 : Int)] 3)).heap.size = wa.heap.size + 1) := Hid.mk (by simp)
            have Sb : (wa.alloc (.cells #[.int .i64 (x0.1 : Int)] 3)).cell? ⟨g8, 0, none⟩ = some (.int .i64 (x0.1 : Int)) := by rw [kOb.cell (World.block_lt_of_cell? _ _ Sa) (by simp)]; exact Sa
            go_simp
            refine hK.out _ _ Sb (fun _ => ?_)
            clear hK K
            go_simp
            generalize wa.alloc (.cells #[.int .i64 (x0.1 : Int)] 3) = wb at kOb hIb szb Sb ⊢
            have kkb := kka.trans kOb (by simp)
            refine wpAnyH_ready (rs := [3]) (by kernel_rfl) (by simp) (AllReadyH.cons rfl (fun K hK => ?_) <| AllReadyH.nil)
            obtain ⟨adc, cdc, wc, hrunc, hAc, kAc, hNc⟩ := app_ints (hEa.kept kOb (by simp)) ((HO.out.kept kkb (by simp)).reads) (by rw [hml]; simp; omega)
            rw [List.length_nil, hml] at hrunc hAc hNc
            rw [List.nil_append] at hAc
            rw [Nat.zero_add] at hrunc hAc hNc
            have Sc : wc.cell? ⟨g8, 0, none⟩ = some (.int .i64 (x0.1 : Int)) := by rw [kAc.cell (World.block_lt_of_cell? _ _ Sb) (by simp [Value.ownBlock]; omega)]; exact Sb
            refine step_append_run 36 (.tmp 90) (.tmp 91) (by rfl) (by rfl) _ _ (by rfl) (by rfl) hrunc (hK.out _ _ Sc (fun _ => ?_))
            clear hK K
            go_simp
            have kkc := kkb.trans kAc (fun z hz => .inr (by simp [Value.ownBlock] at hz; omega))
            have fAc : ∀ g, (Value.slice adc m cdc).ownBlock = some g → w3.heap.size ≤ g := fun g hg => by
              rcases hNc g hg with h | h
              · simp [Value.ownBlock] at h; omega
              · exact Nat.le_trans kkb.size h
            obtain ⟨adZ, cdZ, wZ, hrunZ, hZ, kZ, hNZ⟩ := app_ints hAc ((hIb.kept kAc (fun g hg => by simp [Value.ownBlock] at hg ⊢; have := sza.out; omega)).reads) (by rw [hml]; simp; omega)
            rw [hml] at hrunZ hZ hNZ
            have SZ : wZ.cell? ⟨g8, 0, none⟩ = some (.int .i64 (x0.1 : Int)) := by rw [kZ.cell (World.block_lt_of_cell? _ _ Sc) (fun hm => by have := fAc g8 (by simpa using hm); omega)]; exact Sc
            have kkZ := kkc.trans kZ (fun z hz => .inr (fAc z (by simpa using hz)))
            refine wpAnyH_ready (rs := [8]) (by kernel_rfl) (by simp) (AllReadyH.cons rfl (fun K hK => ?_) <| AllReadyH.nil)
            refine step_append_run 36 (.tmp 92) (.tmp 96) (by rfl) (by rfl) _ _ (by rfl) (by rfl) hrunZ (hK.out _ _ SZ (fun _ => ?_))
            clear hK K
            go_simp
            have hrf := hrefuse wZ adZ cdZ kkZ hZ.reads
            refine wpAnyH_ready (rs := [9]) (by kernel_rfl) (by simp) (AllReadyH.cons rfl (fun K hK => ?_) <| AllReadyH.nil)
            go_simp
            refine hrf.mono ?_
            rintro e wB ⟨rfl, kB⟩
            have SB : wB.cell? ⟨g8, 0, none⟩ = some (.int .i64 (x0.1 : Int)) := by rw [kB.cell (World.block_lt_of_cell? _ _ SZ) (by simp)]; exact SZ
            refine hK.out _ _ SB (fun _ => ?_)
            clear hK K
            go_simp
            refine wpAnyH_take (i := 10) (v := .tuple #[.pointer none, .int .i64 2]) rfl (by kernel_rfl) (by kernel_rfl) (by kernel_rfl) (fun _ _ _ h => h) (Or.inl ⟨by rfl, fun w hS => by have hS' : w.cell? ⟨g8, 0, none⟩ = some (.int .i64 (x0.1 : Int)) := hS; go_simp⟩) SB ?_
            go_simp
            refine wpAnyH_take (i := 11) (v := .pointer none) rfl (by kernel_rfl) (by kernel_rfl) (by kernel_rfl) (fun _ _ _ h => h) (Or.inl ⟨by rfl, fun w hS => by have hS' : w.cell? ⟨g8, 0, none⟩ = some (.int .i64 (x0.1 : Int)) := hS; go_simp⟩) SB ?_
            go_simp
            refine wpAnyH_take (i := 12) (v := .int .i64 2) rfl (by kernel_rfl) (by kernel_rfl) (by kernel_rfl) (fun _ _ _ h => h) (Or.inl ⟨by rfl, fun w hS => by have hS' : w.cell? ⟨g8, 0, none⟩ = some (.int .i64 (x0.1 : Int)) := hS; go_simp⟩) SB ?_
            go_simp
            refine wpAnyH_take (i := 13) (v := .pointer none) rfl (by kernel_rfl) (by kernel_rfl) (by kernel_rfl) (fun _ _ _ h => h) (Or.inl ⟨by rfl, fun w hS => by have hS' : w.cell? ⟨g8, 0, none⟩ = some (.int .i64 (x0.1 : Int)) := hS; go_simp⟩) SB ?_
            go_simp
            refine wpAnyH_take (i := 14) (v := .int .i64 2) rfl (by kernel_rfl) (by kernel_rfl) (by kernel_rfl) (fun _ _ _ h => h) (Or.inl ⟨by rfl, fun w hS => by have hS' : w.cell? ⟨g8, 0, none⟩ = some (.int .i64 (x0.1 : Int)) := hS; go_simp⟩) SB ?_
            go_simp
            refine wpAnyH_done (by kernel_rfl) ?_ _
            have kBB := kkZ.trans kB (by simp)
            rotate_left 2
            obtain ⟨adb, cdb, wb, hrunb, hAb, kAb, hNb⟩ := app_ints hEa ((HO.out.kept kka (by simp)).reads) (by rw [hml]; simp; omega)
            rw [List.length_nil, hml] at hrunb hAb hNb
            rw [List.nil_append] at hAb
            rw [Nat.zero_add] at hrunb hAb hNb
            have Sb : wb.cell? ⟨g8, 0, none⟩ = some (.int .i64 (x0.1 : Int)) := by rw [kAb.cell (World.block_lt_of_cell? _ _ Sa) (by simp [Value.ownBlock]; omega)]; exact Sa
            refine step_append_run 36 (.tmp 90) (.tmp 91) (by rfl) (by rfl) _ _ (by rfl) (by rfl) hrunb (hK.out _ _ Sb (fun _ => ?_))
            clear hK K
            go_simp
            have kkb := kka.trans kAb (fun z hz => .inr (by simp [Value.ownBlock] at hz; omega))
            have fAb : ∀ g, (Value.slice adb m cdb).ownBlock = some g → w3.heap.size ≤ g := fun g hg => by
              rcases hNb g hg with h | h
              · simp [Value.ownBlock] at h; omega
              · exact Nat.le_trans kka.size h
            refine wpAnyH_ready (rs := [7]) (by kernel_rfl) (by simp) (AllReadyH.cons rfl (fun K hK => ?_) <| AllReadyH.nil)
            have kOc := kept_alloc wb (.cells #[.int .i64 (x0.1 : Int)] 3)
            have hIc := ownsI_single wb x0.1
            have szc : Hid ((wb.alloc (.cells #[.int .i64 (x0.1 : Int)] 3)).heap.size = wb.heap.size + 1) := Hid.mk (by simp)
            have Sc : (wb.alloc (.cells #[.int .i64 (x0.1 : Int)] 3)).cell? ⟨g8, 0, none⟩ = some (.int .i64 (x0.1 : Int)) := by rw [kOc.cell (World.block_lt_of_cell? _ _ Sb) (by simp)]; exact Sb
            go_simp
            refine hK.out _ _ Sc (fun _ => ?_)
            clear hK K
            go_simp
            generalize wb.alloc (.cells #[.int .i64 (x0.1 : Int)] 3) = wc at kOc hIc szc Sc ⊢
            have kkc := kkb.trans kOc (by simp)
            obtain ⟨adZ, cdZ, wZ, hrunZ, hZ, kZ, hNZ⟩ := app_ints (hAb.kept kOc (by simp)) (hIc.reads) (by rw [hml]; simp; omega)
            rw [hml] at hrunZ hZ hNZ
            have SZ : wZ.cell? ⟨g8, 0, none⟩ = some (.int .i64 (x0.1 : Int)) := by rw [kZ.cell (World.block_lt_of_cell? _ _ Sc) (fun hm => by have := fAb g8 (by simpa using hm); omega)]; exact Sc
            have kkZ := kkc.trans kZ (fun z hz => .inr (fAb z (by simpa using hz)))
            refine wpAnyH_ready (rs := [8]) (by kernel_rfl) (by simp) (AllReadyH.cons rfl (fun K hK => ?_) <| AllReadyH.nil)
            refine step_append_run 36 (.tmp 92) (.tmp 96) (by rfl) (by rfl) _ _ (by rfl) (by rfl) hrunZ (hK.out _ _ SZ (fun _ => ?_))
            clear hK K
            go_simp
            have hrf := hrefuse wZ adZ cdZ kkZ hZ.reads
            refine wpAnyH_ready (rs := [9]) (by kernel_rfl) (by simp) (AllReadyH.cons rfl (fun K hK => ?_) <| AllReadyH.nil)
            go_simp
            refine hrf.mono ?_
            rintro e wB ⟨rfl, kB⟩
            have SB : wB.cell? ⟨g8, 0, none⟩ = some (.int .i64 (x0.1 : Int)) := by rw [kB.cell (World.block_lt_of_cell? _ _ SZ) (by simp)]; exact SZ
            refine hK.out _ _ SB (fun _ => ?_)
            clear hK K
            go_simp
            refine wpAnyH_take (i := 10) (v := .tuple #[.pointer none, .int .i64 2]) rfl (by kernel_rfl) (by kernel_rfl) (by kernel_rfl) (fun _ _ _ h => h) (Or.inl ⟨by rfl, fun w hS => by have hS' : w.cell? ⟨g8, 0, none⟩ = some (.int .i64 (x0.1 : Int)) := hS; go_simp⟩) SB ?_
            go_simp
            refine wpAnyH_take (i := 11) (v := .pointer none) rfl (by kernel_rfl) (by kernel_rfl) (by kernel_rfl) (fun _ _ _ h => h) (Or.inl ⟨by rfl, fun w hS => by have hS' : w.cell? ⟨g8, 0, none⟩ = some (.int .i64 (x0.1 : Int)) := hS; go_simp⟩) SB ?_
            go_simp
            refine wpAnyH_take (i := 12) (v := .int .i64 2) rfl (by kernel_rfl) (by kernel_rfl) (by kernel_rfl) (fun _ _ _ h => h) (Or.inl ⟨by rfl, fun w hS => by have hS' : w.cell? ⟨g8, 0, none⟩ = some (.int .i64 (x0.1 : Int)) := hS; go_simp⟩) SB ?_
            go_simp
            refine wpAnyH_take (i := 13) (v := .pointer none) rfl (by kernel_rfl) (by kernel_rfl) (by kernel_rfl) (fun _ _ _ h => h) (Or.inl ⟨by rfl, fun w hS => by have hS' : w.cell? ⟨g8, 0, none⟩ = some (.int .i64 (x0.1 : Int)) := hS; go_simp⟩) SB ?_
            go_simp
            refine wpAnyH_take (i := 14) (v := .int .i64 2) rfl (by kernel_rfl) (by kernel_rfl) (by kernel_rfl) (fun _ _ _ h => h) (Or.inl ⟨by rfl, fun w hS => by have hS' : w.cell? ⟨g8, 0, none⟩ = some (.int .i64 (x0.1 : Int)) := hS; go_simp⟩) SB ?_
            go_simp
            refine wpAnyH_done (by kernel_rfl) ?_ _
            have kBB := kkZ.trans kB (by simp)
            all_goals
              clear S0
              have hbl := sy_blocks (HS.out.kept kBB) x0 hx0L
              go_wp2_with fail
              refine hbl.mono ?_
              rintro e wE ⟨v17, rfl, hF17, kE, -⟩
              have hR17 := hF17.reads
              obtain ⟨a17, c17, rfl, h171, h172⟩ := hR17.form
              have kCC := kBB.trans kE (by simp)
              obtain ⟨B, hB⟩ : ∃ B, Hid (x0.2.1.length = B) := ⟨_, rfl⟩
              rw [hB.out] at h171 hR17 ⊢
              clear hbl hF17
              by_cases hB1 : 1 < B
              · have v0 : (1 : Int) < (B : Int) := by omega
                obtain ⟨y1, hy1⟩ : ∃ y1, x0.2.1[1]? = some y1 := ⟨x0.2.1[1]'(by have := hB.out; omega), by simp⟩
                obtain ⟨asl, csl, hsl, hrs⟩ := slice_second a17 B c17 y1 x0.2.1 wE hB.out.symm hR17 hy1
                have hy1s : y1 < 65536 := (HS.out.ok.lies x0 hx0L).small _ (List.mem_of_getElem? hy1)
                have hrf := sy_refuse (HS.out.kept kCC) hC1 [] (List.nil_sublist _) (by simp) y1 (second_bad HS.out.ok hx0L y1 hy1) hy1s asl 1 csl rfl (hrs wE hR17)
                change Calls Try.prog 11 #[.pointer (some ⟨q, 0, none⟩), .int .i64 10, .int .i64 80, .slice asl 1 csl] _ _ at hrf
                have hslE := hsl wE
                clear hsl hrs hR17 hy1
                go_wp2_with fail
                refine hrf.mono ?_
                rintro e wG ⟨rfl, kG'⟩
                have kG := kCC.trans kG' (by simp)
                clear hrf kG' kCC
                have k5 := kept_alloc wG (.cells #[.int .i64 90] 3)
                have kG5 := kG.trans k5 (by simp)
                have hr5 := sy_refuse (HS.out.kept kG5) hC1 [] (List.nil_sublist _) (by simp) 90 (.inr (.inl (.inr (by omega)))) (by omega) (some ⟨wG.heap.size, 0, none⟩) 1 1 rfl (readsI_one wG 90)
                change Calls Try.prog 11 #[.pointer (some ⟨q, 0, none⟩), .int .i64 10, .int .i64 80, .slice (some ⟨wG.heap.size, 0, none⟩) 1 1] _ _ at hr5
                go_wp2_with fail
                refine hr5.mono ?_
                rintro e wH ⟨rfl, kH⟩
                have kHH := kG5.trans kH (by simp)
                clear hr5 kG5 k5 kG kH
                have k6 := kept_alloc wH (.cells #[.int .i64 9] 3)
                have kH6 := kHH.trans k6 (by simp)
                have hr6 := sy_refuse (HS.out.kept kH6) hC1 [] (List.nil_sublist _) (by simp) 9 (.inr (.inl (.inl (by omega)))) (by omega) (some ⟨wH.heap.size, 0, none⟩) 1 1 rfl (readsI_one wH 9)
                change Calls Try.prog 11 #[.pointer (some ⟨q, 0, none⟩), .int .i64 10, .int .i64 80, .slice (some ⟨wH.heap.size, 0, none⟩) 1 1] _ _ at hr6
                go_wp2_with fail
                refine hr6.mono ?_
                rintro e wI ⟨rfl, kI⟩
                have kII := kH6.trans kI (by simp)
                have hop := sy_open (HS.out.kept kII) hC1 (by have := hm.out; omega) _ m cv hm.out.symm ((HO.out.kept kII (by simp)).reads) (fun y hy => Nat.lt_of_lt_of_le (HO.out.lt (by simpa using hy)) kII.size)
                change Calls Try.prog 11 #[.pointer (some ⟨q, 0, none⟩), .int .i64 10, .int .i64 80, _] _ _ at hop
                have hKI := HS.out.k.trans kII (by simp)
                clear hr6 kH6 k6 kHH kI kII
                go_wp2_with fail
                refine hop.mono ?_
                rintro e wJ ⟨p2, fl2, rfl, -, kJ⟩
                have hKJ := hKI.trans kJ (by simp)
                clear hop hKI kJ
                go_wp2
                go_ret
                exact ⟨rfl, hKJ⟩
              · have v0 : ¬ (1 : Int) < (B : Int) := by omega
                clear hR17
                obtain ⟨wG, hwG⟩ : ∃ wG, Hid (wE = wG) := ⟨_, rfl⟩
                have kG : Kept [] w3 wG := hwG.out ▸ kCC
                rw [hwG.out]
                clear hwG
                have k5 := kept_alloc wG (.cells #[.int .i64 90] 3)
                have kG5 := kG.trans k5 (by simp)
                have hr5 := sy_refuse (HS.out.kept kG5) hC1 [] (List.nil_sublist _) (by simp) 90 (.inr (.inl (.inr (by omega)))) (by omega) (some ⟨wG.heap.size, 0, none⟩) 1 1 rfl (readsI_one wG 90)
                change Calls Try.prog 11 #[.pointer (some ⟨q, 0, none⟩), .int .i64 10, .int .i64 80, .slice (some ⟨wG.heap.size, 0, none⟩) 1 1] _ _ at hr5
                go_wp2_with fail
                refine hr5.mono ?_
                rintro e wH ⟨rfl, kH⟩
                have kHH := kG5.trans kH (by simp)
                clear hr5 kG5 k5 kG kH
                have k6 := kept_alloc wH (.cells #[.int .i64 9] 3)
                have kH6 := kHH.trans k6 (by simp)
                have hr6 := sy_refuse (HS.out.kept kH6) hC1 [] (List.nil_sublist _) (by simp) 9 (.inr (.inl (.inl (by omega)))) (by omega) (some ⟨wH.heap.size, 0, none⟩) 1 1 rfl (readsI_one wH 9)
                change Calls Try.prog 11 #[.pointer (some ⟨q, 0, none⟩), .int .i64 10, .int .i64 80, .slice (some ⟨wH.heap.size, 0, none⟩) 1 1] _ _ at hr6
                go_wp2_with fail
                refine hr6.mono ?_
                rintro e wI ⟨rfl, kI⟩
                have kII := kH6.trans kI (by simp)
                have hop := sy_open (HS.out.kept kII) hC1 (by have := hm.out; omega) _ m cv hm.out.symm ((HO.out.kept kII (by simp)).reads) (fun y hy => Nat.lt_of_lt_of_le (HO.out.lt (by simpa using hy)) kII.size)
                change Calls Try.prog 11 #[.pointer (some ⟨q, 0, none⟩), .int .i64 10, .int .i64 80, _] _ _ at hop
                have hKI := HS.out.k.trans kII (by simp)
                clear hr6 kH6 k6 kHH kI kII
                go_wp2_with fail
                refine hop.mono ?_
                rintro e wJ ⟨p2, fl2, rfl, -, kJ⟩
                have hKJ := hKI.trans kJ (by simp)
                clear hop hKI kJ
                go_wp2
                go_ret
                exact ⟨rfl, hKJ⟩
          have k5 := kept_alloc wG (.cells #[.int .i64 90] 3)
          have kG5 := kG.trans k5 (by simp)
          have hr5 := sy_refuse (HS.out.kept kG5) hC1 [] (List.nil_sublist _) (by simp) 90 (.inr (.inl (.inr (by omega)))) (by omega) (some ⟨wG.heap.size, 0, none⟩) 1 1 rfl (readsI_one wG 90)
          change Calls Try.prog 11 #[.pointer (some ⟨q, 0, none⟩), .int .i64 10, .int .i64 80, .slice (some ⟨wG.heap.size, 0, none⟩) 1 1] _ _ at hr5
          go_wp2_with fail
          refine hr5.mono ?_
          rintro e wH ⟨rfl, kH⟩
          have kHH := kG5.trans kH (by simp)
          clear hr5 kG5 k5 kG kH
          have k6 := kept_alloc wH (.cells #[.int .i64 9] 3)
          have kH6 := kHH.trans k6 (by simp)
          have hr6 := sy_refuse (HS.out.kept kH6) hC1 [] (List.nil_sublist _) (by simp) 9 (.inr (.inl (.inl (by omega)))) (by omega) (some ⟨wH.heap.size, 0, none⟩) 1 1 rfl (readsI_one wH 9)
          change Calls Try.prog 11 #[.pointer (some ⟨q, 0, none⟩), .int .i64 10, .int .i64 80, .slice (some ⟨wH.heap.size, 0, none⟩) 1 1] _ _ at hr6
          go_wp2_with fail
          refine hr6.mono ?_
          rintro e wI ⟨rfl, kI⟩
          have kII := kH6.trans kI (by simp)
          have hop := sy_open (HS.out.kept kII) hC1 (by have := hm.out; omega) _ m cv hm.out.symm ((HO.out.kept kII (by simp)).reads) (fun y hy => Nat.lt_of_lt_of_le (HO.out.lt (by simpa using hy)) kII.size)
          change Calls Try.prog 11 #[.pointer (some ⟨q, 0, none⟩), .int .i64 10, .int .i64 80, _] _ _ at hop
          have hKI := HS.out.k.trans kII (by simp)
          clear hr6 kH6 k6 kHH kI kII
          go_wp2_with fail
          refine hop.mono ?_
          rintro e wJ ⟨p2, fl2, rfl, -, kJ⟩
          have hKJ := hKI.trans kJ (by simp)
          clear hop hKI kJ
          go_wp2
          go_ret
          exact ⟨rfl, hKJ⟩
end Go.Proofs.Ytilelklcfgemoaa
