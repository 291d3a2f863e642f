/-
  PagesCuts answers true.
-/
import Derived.Test.YtilelklcfgemoaaCu
namespace Go.Proofs.Ytilelklcfgemoaa
open Go.RowKit
set_option linter.unusedVariables false

set_option maxRecDepth 100000 in
set_option maxHeartbeats 1000000 in
theorem cuts_walk (w : World) (v : Value) (ls : List OpL) (hv : HoldsO w v ls) :
    Calls Try.prog 5 #[v] w fun e w' => e = .returned (.bool true) ∧ Kept [] w w' := by
  have HV := Hid.mk hv
  obtain ⟨a1, c1, rfl, hc1, hm1, -⟩ := hv
  have hm1' : c1 ≤ 9223372036854775807 := hm1
  clear hm1
  obtain ⟨N0, hn⟩ : ∃ n, Hid (ls.length = n) := ⟨_, rfl⟩
  rw [hn.out] at hc1 ⊢
  go_enter Try.func5, Try.ntmps5
  go_wp2_with fail
  refine (awake_any w).mono ?_
  rintro e w0 ⟨rfl, k0⟩
  by_cases hbig : 12 < N0
  · have hgt : (12 : Int) < (N0 : Int) := by omega
    go_wp2_with fail
    refine (awake_any w0).mono ?_
    rintro e w2 ⟨rfl, k2⟩
    have hK := k0.trans k2 (by simp)
    clear k0 k2
    go_wp2
    go_ret
    exact ⟨rfl, hK⟩
  · have hgt : ¬ (12 : Int) < (N0 : Int) := by omega
    have hnew := sy_new k0 120 0 120 (by omega) (by omega) (by omega)
    change Calls Try.prog 10 #[.int .i64 120] w0 _ at hnew
    go_wp2_with fail
    refine hnew.mono ?_
    rintro e w1 ⟨q, rfl, k1, hop'⟩
    have hop := hop' w1 (Kept.refl _ _)
    change Calls Try.prog 11 #[.pointer (some ⟨q, 0, none⟩), .int .i64 0, .int .i64 120, .slice none 0 0] w1 _ at hop
    clear hnew hop' k1 k0
    go_wp2_with fail
    refine hop.mono ?_
    rintro e w2 ⟨p, fl, rfl, hfl, hS, -⟩
    have hC : Calm ⟨120, [], -1, false⟩ (26 * 0) := ⟨rfl, rfl, by simp⟩
    clear hop
    go_wp2_with fail
    go_loopw [6, 7, 32] (fun u6 u7 i wr => ∃ (j : Nat) (s : St) (L : List Ent) (fl es : List Nat), i = .int .i64 (j : Int) ∧ j ≤ N0 ∧ Sy w wr q p s 0 120 L fl (u6.ownBlock.toList ++ u7.ownBlock.toList) ∧ Calm s (26 * j) ∧ Hid (s.nb = 120) ∧ Ends s.ws L es ∧ OwnsK wr u6 (kps L) ∧ OwnsI wr u7 es ∧ (∀ g, u6.ownBlock = some g → w.heap.size ≤ g) ∧ (∀ g, u7.ownBlock = some g → w.heap.size ≤ g) ∧ L.length ≤ j) (fun _ _ i _ => N0 - (numOf i).toNat)
    case atStart => exact ⟨0, _, [], fl, [], rfl, Nat.zero_le _, hS, hC, Hid.mk rfl, Ends.nil _, OwnsK.nil _, OwnsI.nil _, by simp [Value.ownBlock], by simp [Value.ownBlock], Nat.le_refl _⟩
    case round =>
      clear hS hC hfl
      obtain ⟨j, s, L, fl, es, rfl, hj, hS, hC, hnb, hEn, hO6, hO7, hF6, hF7, hLj⟩ := hrel
      obtain ⟨a6, c6, rfl, hc61, hc62⟩ := hO6.form
      obtain ⟨a7, c7, rfl, hc71, hc72⟩ := hO7.form
      have hesl := hEn.1
      rw [kps_length] at hO6 hS hF6 hc61 ⊢
      rw [hesl] at hO7 hS hF7 hc71 ⊢
      obtain ⟨m, hm⟩ : ∃ m, Hid (L.length = m) := ⟨_, rfl⟩
      rw [hm.out] at hO6 hO7 hS hF6 hF7 hLj hc61 hc71 hesl ⊢
      by_cases hjn : j < N0
      · have hlt : (j : Int) < (N0 : Int) := by omega
        obtain ⟨x, hx⟩ : ∃ x, ls[j]? = some x := ⟨ls[j]'(by have := hn.out; omega), by simp⟩
        obtain ⟨b, o, cap', ab, cb, hve, d0, d1, d2, hrx, hxo⟩ := HV.out.at j x hx hS.k
        rw [hn.out] at hve
        injection hve with e1 e2 e3
        subst e1 e3
        have htx := text_any x hxo ab cb wr (hrx.kept hS.k (by simp))
        clear hx hrx hxo
        go_wp2_with fail
        refine htx.mono ?_
        rintro e w3 ⟨v3, rfl, hO3, k3, hF3⟩
        clear htx d0 d1 d2
        obtain ⟨a3, c3, rfl⟩ := hO3.form
        obtain ⟨T, hT⟩ : ∃ T, Hid ((textL x).length = T) := ⟨_, rfl⟩
        have hT6 : T ≤ 6000 := by have := textL_len x; have := hT.out; omega
        have hTk := bks_text hT6
        rw [hT.out] at hO3 hF3 ⊢
        have hS3 := hS.more (Y := (Value.slice a3 T c3).ownBlock.toList) k3 (fun y hy => hF3 y (by simpa using hy))
        have hO6' := hO6.kept k3 (by simp)
        have hO7' := hO7.kept k3 (by simp)
        by_cases hfit : bks T ≤ fl.length
        · have hput := sy_put hS3 a3 T c3 (textL x) hT.out.symm hO3.reads (fun g hg => .inl (by simp only [List.mem_append, Option.mem_toList]; exact .inl hg)) (fun y hy => by
            simp only [List.mem_append, Option.mem_toList] at hy
            rcases hy with hy | hy | hy
            · exact hO3.lt hy
            · exact hO6'.lt hy
            · exact hO7'.lt hy) (by omega) hfit hC.1 (.inl (by rw [hC.2.1]; omega)) (by have := hC.2.2; omega)
          have hok := hS.ok
          clear hS hO6 hO7
          go_wp2_with fail
          refine hput.mono ?_
          rintro e w4 ⟨nm, vs, fu, rfl, -, hvs, hvt, hfu, hS4, kx⟩
          have hC4 := Hid.mk (hC.more vs fu hfu (k := 26) (by omega))
          have hE4 := Hid.mk (hEn.put hok vs (fun y hy => List.mem_of_mem_take (hvt y hy)) _ rfl hS4.ok)
          have hO64 := hO6'.keptX kx (fun g hg => by simp only [List.mem_append, Option.mem_toList]; exact .inr (.inl hg))
          have hO74 := hO7'.keptX kx (fun g hg => by simp only [List.mem_append, Option.mem_toList]; exact .inr (.inr hg))
          have hr4 : Reads w4 (.slice a3 T c3) (textL x) := hO3.reads.keptX kx (fun g hg => by simp only [List.mem_append, Option.mem_toList]; exact .inl hg)
          have hst := str34 _ _ _ hr4
          have hS4' := hS4.less (Y := (Value.slice a6 m c6).ownBlock.toList ++ (Value.slice a7 m c7).ownBlock.toList) (fun y hy => List.mem_append.2 (.inr hy))
          have hkl : (kps L).length = m := by rw [kps_length]; exact hm.out
          obtain ⟨ad, cd, w5, hrun, hO5, k5, hN5⟩ := append_kept hO64 (nm, textL x) (by rw [hkl]; omega)
          rw [hkl] at hrun hO5 hN5
          have hO75 := hO74.kept k5 (fun g hg hmm => apartKI hO64 hO74 hg (by simpa using hmm))
          have hS5 := hS4'.turn2 (Y := (Value.slice ad (m + 1) cd).ownBlock.toList ++ (Value.slice a7 m c7).ownBlock.toList) k5 (fun y hy => List.mem_append.2 (.inl hy)) (fun y hy => hF6 y (by simpa using hy)) (fun y hy => by
            rcases List.mem_append.1 hy with hy | hy
            · rw [Option.mem_toList] at hy
              rcases hN5 y hy with h | h
              · exact .inl (List.mem_append.2 (.inl (by rw [Option.mem_toList]; exact h)))
              · exact .inr h
            · exact .inl (List.mem_append.2 (.inr hy)))
          have hF65 : Hid (∀ g, (Value.slice ad (m + 1) cd).ownBlock = some g → w.heap.size ≤ g) := fun g hg => by
            rcases hN5 g hg with h | h
            · exact hF6 g h
            · have := hS4.k.size; omega
          have hwr := sy_writes hS5
          have e9 : kps (L ++ [(nm, fl.take (bks T), textL x)]) = kps L ++ [(nm, textL x)] := by simp [kps]
          rw [← e9] at hO5
          clear hput hC hEn hvs hvt hfu hS4 hS4' kx hO64 hO74 k5 hN5 hO6' hO7' hO3 hF3 k3 hS3 hF6 hok hr4 e9
          have hnb5 : Hid (({ s with ws := s.ws ++ vs, fuse := fu } : St).nb = 120) := hnb
          generalize ({ s with ws := s.ws ++ vs, fuse := fu } : St) = s5 at hS5 hwr hC4 hE4 hnb5
          dsimp only at hrun
          generalize (⟨(textL x).toArray⟩ : ByteArray) = TB at hrun hst
          obtain ⟨ae, ce, w6, hrun7, hO8, k8, hN8⟩ := append_int hO75 s5.ws.length (by rw [hesl]; omega)
          rw [hesl] at hrun7 hO8 hN8
          have hO66 := Hid.mk (hO5.kept k8 (fun g hg hmm => apartKI hO5 hO75 (by simpa using hmm) hg))
          have HS6 := Hid.mk (hS5.turn2 (Y := (Value.slice ad (m + 1) cd).ownBlock.toList ++ (Value.slice ae (m + 1) ce).ownBlock.toList) k8 (fun y hy => List.mem_append.2 (.inr hy)) (fun y hy => hF7 y (by simpa using hy)) (fun y hy => by
            rcases List.mem_append.1 hy with hy | hy
            · exact .inl (List.mem_append.2 (.inl hy))
            · rw [Option.mem_toList] at hy
              rcases hN8 y hy with h | h
              · exact .inl (List.mem_append.2 (.inr (by rw [Option.mem_toList]; exact h)))
              · exact .inr h))
          have hF78 : Hid (∀ g, (Value.slice ae (m + 1) ce).ownBlock = some g → w.heap.size ≤ g) := fun g hg => by
            rcases hN8 g hg with h | h
            · exact hF7 g h
            · have := hS5.k.size; omega
          have HO8 := Hid.mk hO8
          clear hS5 hO5 hO75 hO8 k8 hN8 hF7 hnb
          go_wp2_with (at_builtin; refine wpList_append_run 30 _ _ rfl rfl _ _ rfl rfl _ _ hrun ?_)
          refine hwr.mono ?_
          rintro e w5' ⟨rfl, rfl⟩
          clear hwr hrun hst
          go_wp2_with (at_builtin; refine wpList_append_run 36 _ _ rfl rfl _ _ rfl rfl _ _ hrun7 ?_)
          exact ⟨⟨j + 1, s5, _, _, _, by go_num, by omega, HS6.out, by rw [Nat.mul_add]; exact hC4.out, hnb5, hE4.out, hO66.out, HO8.out, hF65.out, hF78.out, by rw [List.length_append, hm.out, List.length_singleton]; omega⟩, by simp [numOf]; omega⟩
        · have hput := sy_put_full hS3 a3 T c3 (by omega) (by omega)
          have HS3 := Hid.mk (hS3.less (Y := (Value.slice a6 m c6).ownBlock.toList ++ (Value.slice a7 m c7).ownBlock.toList) (fun y hy => List.mem_append.2 (.inr hy)))
          have HO6 := Hid.mk hO6'
          have HO7 := Hid.mk hO7'
          have HC := Hid.mk hC
          have HE := Hid.mk hEn
          have HF6 := Hid.mk hF6
          have HF7 := Hid.mk hF7
          clear hS hO6 hO7 hO6' hO7' hS3 hC hEn hF6 hF7 hO3 hF3 k3
          go_wp2_with fail
          refine hput.mono ?_
          rintro e w4 ⟨rfl, rfl⟩
          clear hput
          go_wp2_with fail
          exact ⟨⟨j + 1, _, _, _, _, by go_num, by omega, HS3.out, by have h := HC.out; exact ⟨h.1, h.2.1, by have := h.2.2; omega⟩, hnb, HE.out, HO6.out, HO7.out, HF6.out, HF7.out, by rw [hm.out]; omega⟩, by simp [numOf]; omega⟩
      · have hni : ¬ (j : Int) < (N0 : Int) := by omega
        have hwr := sy_writes hS
        have HS := Hid.mk hS
        have HE := Hid.mk hEn
        have HO6 := Hid.mk hO6
        have HO7 := Hid.mk hO7
        have hN1 : s.ws.length ≤ 1000 := by have := hC.2.2; omega
        have hd := hC.1
        obtain ⟨N, hN⟩ : ∃ N, Hid (s.ws.length = N) := ⟨_, rfl⟩
        rw [hN.out] at hwr hN1
        clear hS hEn hO6 hO7 hF6 hF7 hC
        go_wp2_with fail
        refine hwr.mono ?_
        rintro e wr' ⟨rfl, rfl⟩
        clear hwr
        go_wp2_with fail
        obtain ⟨wb, hwb⟩ : ∃ wb, wb = wr := ⟨_, rfl⟩
        subst hwb
        go_loopw [64] (fun i wx => ∃ n : Nat, i = .int .i64 (n : Int) ∧ n ≤ N + 1 ∧ Kept [] wb wx) (fun i _ => N + 1 - (numOf i).toNat)
        case atStart => exact ⟨0, rfl, Nat.zero_le _, Kept.refl [] wb⟩
        case round =>
          obtain ⟨n, rfl, hn1, KX1⟩ := hrel
          obtain ⟨wx, hwx⟩ : ∃ wx, wx = wr := ⟨_, rfl⟩
          subst hwx
          by_cases hltn : n < N + 1
          · have hltn2 : (n : Int) < (N : Int) + 1 := by omega
            go_wp2_with fail
            go_loopw [13] (fun i wy => ∃ k : Nat, i = .int .i64 (k : Int) ∧ k ≤ m ∧ (∀ (y e : Nat), y < k → es[y]? = some e → e ≤ n) ∧ wy = wx) (fun i _ => m - (numOf i).toNat)
            case atStart => exact ⟨0, rfl, Nat.zero_le _, fun y e hy => by omega, rfl⟩
            case round =>
              obtain ⟨k, rfl, hk, hky, rfl⟩ := hrel
              obtain ⟨wx, hwx⟩ : ∃ wx, wx = wr := ⟨_, rfl⟩
              subst hwx
              have hIx := HO7.out.kept KX1 (by simp)
              by_cases hgo : k < m ∧ ∀ e, es[k]? = some e → e ≤ n
              · have hkm2 : (k : Int) < (m : Int) := by omega
                obtain ⟨e, he⟩ : ∃ e, es[k]? = some e := ⟨es[k]'(by rw [hesl]; exact hgo.1), by simp⟩
                have hen := hgo.2 e he
                obtain ⟨gi, ci', hvi, hcell⟩ := hIx.at k e he
                rw [hesl] at hvi
                injection hvi with e1 e2 e3
                subst e1 e3
                have hle2 : (e : Int) ≤ (n : Int) := by omega
                have HKY : Hid (∀ (y e : Nat), y < k + 1 → es[y]? = some e → e ≤ n) := fun y e' hy hye => by
                  by_cases h : y < k
                  · exact hky y e' h hye
                  · have : y = k := by omega
                    subst this
                    rw [he] at hye
                    injection hye with hye
                    omega
                have hk1 := hgo.1
                clear hky hIx hgo he e2
                go_wp2_with fail
                exact ⟨⟨k + 1, by go_num, by omega, HKY.out, by first | rfl | trivial⟩, by simp [numOf]; omega⟩
              · obtain ⟨asl, csl, hsl, hsT, -⟩ := sliceK_to a6 m c6 k (kps L) wb (by rw [kps_length]; exact hm.out.symm) HO6.out.holds hk
                have hkL : k ≤ L.length := by have := hm.out; omega
                have hL12 : L.length ≤ 12 := by have := hm.out; omega
                have hklen : ((L.take k).map (·.1)).length = k := by rw [List.length_map, List.length_take]; omega
                have hcut : ∀ W, Kept [] wx W → Calls Try.prog 23 #[.pointer (some ⟨q, 0, none⟩), .int .i64 (n : Int)] W fun e w' => ∃ q2, e = .returned (.pointer (some ⟨q2, 0, none⟩)) ∧ ∃ F, IsD w' F q2 ⟨s.nb, s.ws.take n, -1, false⟩ ∧ Kept [] W w' ∧ ∀ x ∈ F, W.heap.size ≤ x := fun W kW => sy_cut ((HS.out.kept KX1).kept kW) n (by rw [hN.out]; omega) (by rw [hN.out]; omega)
                have hnam : ∀ W, Kept [] wx W → Calls Try.prog 18 #[.slice asl k csl] W fun e w' => ∃ u, e = .returned u ∧ OwnsI w' u ((L.take k).map (·.1)) ∧ Kept [] W w' ∧ Fresh W u := fun W kW => by
                  have h := namesL_any W (.slice asl k csl) ((kps L).take k) (hsT W (HO6.out.holds.kept (KX1.trans kW (by simp)) (by simp))) (by rw [List.length_take, kps_length]; omega)
                  rw [kps_take, kps_names] at h
                  exact h
                have hopen : ∀ W F q2 au cu, Kept [] wx W → IsD W F q2 ⟨s.nb, s.ws.take n, -1, false⟩ → (∀ x ∈ F, wx.heap.size ≤ x) → ReadsI W (.slice au k cu) ((L.take k).map (·.1)) → Calls Try.prog 11 #[.pointer (some ⟨q2, 0, none⟩), .int .i64 0, .int .i64 120, .slice au k cu] W fun e w' => ∃ p2 fl2, e = .returned (.tuple #[.pointer (some ⟨p2, 0, none⟩), .int .i64 0]) ∧ Sy wx w' q2 p2 ⟨s.nb, s.ws.take n, -1, false⟩ 0 120 (L.take k) fl2 [] ∧ Kept [] W w' := fun W F q2 au cu kW hD hF hr =>
                  cut_open HS.out.ok HE.out (by rw [hN.out]; omega) hkL (by omega) hky hD kW hF au cu hr
                have hal : ∀ W q2 p2 fl2, Kept [] wx W → Sy wx W q2 p2 ⟨s.nb, s.ws.take n, -1, false⟩ 0 120 (L.take k) fl2 [] → Calls Try.prog 21 #[.pointer (some ⟨p2, 0, none⟩), .slice asl k csl, .int .i64 0, .int .i64 120] W fun e w' => e = .returned (.bool true) ∧ Kept [] W w' := fun W q2 p2 fl2 kW h => by
                  have hh := hsT W (HO6.out.holds.kept (KX1.trans kW (by simp)) (by simp))
                  rw [kps_take] at hh
                  exact alike_any h rfl (.slice asl k csl) hh
                have kD := (Kept.refl [] wx).drew
                have S0 : True := trivial
                rcases Nat.lt_or_ge k m with hkm | hkm
                case' inl =>
                  have hkm2 : (k : Int) < (m : Int) := by omega
                  obtain ⟨e, he⟩ : ∃ e, es[k]? = some e := ⟨es[k]'(by rw [hesl]; exact hkm), by simp⟩
                  have hen : ¬ e ≤ n := fun h => hgo ⟨hkm, fun e' he' => by rw [he] at he'; injection he' with he'; omega⟩
                  obtain ⟨gi, ci', hvi, hcell⟩ := hIx.at k e he
                  rw [hesl] at hvi
                  injection hvi with e1 e2 e3
                  subst e1 e3
                  have hle2 : ¬ (e : Int) ≤ (n : Int) := by omega
                  clear hIx hgo he e2 hkm hsT
                  go_wp2_with fail
                case' inr =>
                  have hkm2 : ¬ (k : Int) < (m : Int) := by omega
                  clear hIx hgo hkm hsT
                  go_wp2_with fail
                all_goals
                  refine wp_region_held_drew (S := fun w' => True) (by kernel_rfl) S0 (fun _ => ?_)
                  generalize wx.drew = wD at kD ⊢
                  refine wpAnyH_take (i := 0) (v := .pointer (some ⟨q, 0, none⟩)) rfl (by kernel_rfl) (by kernel_rfl) (by kernel_rfl) (fun _ _ _ h => h) (Or.inl ⟨by rfl, fun w hS => by have hS' : True := hS; go_simp⟩) S0 ?_
                  go_simp
                  refine wpAnyH_take (i := 1) (v := .int .i64 (n : Int)) rfl (by kernel_rfl) (by kernel_rfl) (by kernel_rfl) (fun _ _ _ h => h) (Or.inl ⟨by rfl, fun w hS => by have hS' : True := hS; go_simp⟩) S0 ?_
                  go_simp
                  refine wpAnyH_take (i := 3) (v := .slice a6 m c6) rfl (by kernel_rfl) (by kernel_rfl) (by kernel_rfl) (fun _ _ _ h => h) (Or.inl ⟨by rfl, fun w hS => by have hS' : True := hS; go_simp⟩) S0 ?_
                  go_simp
                  refine wpAnyH_take (i := 4) (v := .int .i64 (k : Int)) rfl (by kernel_rfl) (by kernel_rfl) (by kernel_rfl) (fun _ _ _ h => h) (Or.inl ⟨by rfl, fun w hS => by have hS' : True := hS; go_simp⟩) S0 ?_
                  go_simp
                  refine wpAnyH_take (i := 5) (v := .slice asl k csl) rfl (by kernel_rfl) (by kernel_rfl) (by kernel_rfl) (fun _ _ _ h => h) (Or.inl ⟨by rfl, fun w hS => by have hS' : True := hS; go_simp⟩) S0 ?_
                  go_simp
                  refine wpAnyH_ready (rs := [2]) (by kernel_rfl) (by simp) (AllReadyH.cons rfl (fun K hK => ?_) <| AllReadyH.nil)
                  go_simp
                  refine (hcut wD kD).mono ?_
                  rintro e w1 ⟨q2, rfl, F2, hD2, k1, hF2⟩
                  have kk1 := kD.trans k1 (by simp)
                  refine hK.out _ _ trivial (fun _ => ?_)
                  clear hK K
                  go_simp
                  refine wpAnyH_ready (rs := [6]) (by kernel_rfl) (by simp) (AllReadyH.cons rfl (fun K hK => ?_) <| AllReadyH.nil)
                  go_simp
                  refine (hnam w1 kk1).mono ?_
                  rintro e w2 ⟨u2, rfl, hO2, k2, -⟩
                  obtain ⟨au, cu, rfl, -, -⟩ := hO2.form
                  have kZ := kk1.trans k2 (by simp)
                  have hDZ := hD2.kept k2 (by simp)
                  have hFZ : ∀ x ∈ F2, wx.heap.size ≤ x := fun x hx => Nat.le_trans kD.size (hF2 x hx)
                  rw [hklen] at hO2
                  have hOZ := hO2
                  rw [hklen]
                  clear hO2 hD2 hF2 k1 k2 kk1
                  refine hK.out _ _ trivial (fun _ => ?_)
                  clear hK K
                  go_simp
                  refine wpAnyH_ready (rs := [7]) (by kernel_rfl) (by simp) (AllReadyH.cons rfl (fun K hK => ?_) <| AllReadyH.nil)
                  go_simp
                  refine (hopen _ _ _ _ _ kZ hDZ hFZ hOZ.reads).mono ?_
                  rintro e wE ⟨p2, fl2, rfl, hS2, kE⟩
                  have kEE := kZ.trans kE (by simp)
                  clear kZ kE hDZ hFZ hOZ
                  refine hK.out _ _ trivial (fun _ => ?_)
                  clear hK K
                  go_simp
                  refine wpAnyH_take (i := 8) (v := .tuple #[.pointer (some ⟨p2, 0, none⟩), .int .i64 0]) rfl (by kernel_rfl) (by kernel_rfl) (by kernel_rfl) (fun _ _ _ h => h) (Or.inl ⟨by rfl, fun w hS => by have hS' : True := hS; go_simp⟩) S0 ?_
                  go_simp
                  refine wpAnyH_take (i := 9) (v := .pointer (some ⟨p2, 0, none⟩)) rfl (by kernel_rfl) (by kernel_rfl) (by kernel_rfl) (fun _ _ _ h => h) (Or.inl ⟨by rfl, fun w hS => by have hS' : True := hS; go_simp⟩) S0 ?_
                  go_simp
                  refine wpAnyH_take (i := 10) (v := .int .i64 0) rfl (by kernel_rfl) (by kernel_rfl) (by kernel_rfl) (fun _ _ _ h => h) (Or.inl ⟨by rfl, fun w hS => by have hS' : True := hS; go_simp⟩) S0 ?_
                  go_simp
                  refine wpAnyH_take (i := 11) (v := .pointer (some ⟨p2, 0, none⟩)) rfl (by kernel_rfl) (by kernel_rfl) (by kernel_rfl) (fun _ _ _ h => h) (Or.inl ⟨by rfl, fun w hS => by have hS' : True := hS; go_simp⟩) S0 ?_
                  go_simp
                  refine wpAnyH_take (i := 12) (v := .int .i64 0) rfl (by kernel_rfl) (by kernel_rfl) (by kernel_rfl) (fun _ _ _ h => h) (Or.inl ⟨by rfl, fun w hS => by have hS' : True := hS; go_simp⟩) S0 ?_
                  go_simp
                  refine wpAnyH_done (by kernel_rfl) ?_ _
                  all_goals
                    have hal2 := hal wE q2 p2 fl2 kEE hS2
                    have hslE := hsl wE
                    have HK9 := KX1.trans kEE (by simp)
                    clear hS2 kEE hal hopen hnam hcut hsl KX1
                    go_wp2_with fail
                    refine hal2.mono ?_
                    rintro e w9 ⟨rfl, k9⟩
                    have HKK := Hid.mk (HK9.trans k9 (by simp))
                    clear hal2 HK9 k9 hslE
                    go_wp2_with fail
                    exact ⟨⟨n + 1, by go_num, by omega, HKK.out⟩, by simp [numOf]; omega⟩
          · have hltn2 : ¬ (n : Int) < (N : Int) + 1 := by omega
            have hK := HS.out.k.trans KX1 (by simp)
            clear KX1
            go_wp2
            go_ret
            exact ⟨rfl, hK⟩
end Go.Proofs.Ytilelklcfgemoaa
