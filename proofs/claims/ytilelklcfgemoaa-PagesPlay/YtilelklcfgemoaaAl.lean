/-
  alike: the pages have just these texts: it says yes.
-/
import Derived.Test.YtilelklcfgemoaaWh
import Derived.BigQuiet
namespace Go.Proofs.Ytilelklcfgemoaa
open Go.RowKit
set_option linter.unusedVariables false

theorem inf36 : (Try.prog.info? 36).map (fun i => (i.zero, i.size, i.bytes)) = some (some (.slice none 0 0), 1, 24) := by kernel_rfl
/-- The slice v owns a row of lists, each in a row of its own. -/
def OwnsL (w : World) (v : Value) (ls : List (List Nat)) : Prop :=
  ∃ us : List Value, us.length = ls.length ∧ w.ownsRow 0 36 1 v us.length us ∧ ∀ (j : Nat) (u : Value) (l : List Nat), us[j]? = some u → ls[j]? = some l → OwnsI w u l
theorem OwnsL.form {w : World} {v : Value} {ls : List (List Nat)} (h : OwnsL w v ls) : ∃ a c, v = .slice a ls.length c := by
  obtain ⟨us, h1, h2, _⟩ := h
  rcases h2.2 with ⟨rfl, h0⟩ | ⟨g, cap, cur, rfl, _⟩
  · exact ⟨none, 0, by rw [← h1, h0]⟩
  · exact ⟨_, cap, by rw [← h1]⟩
theorem OwnsL.lt {w : World} {v : Value} {ls : List (List Nat)} (h : OwnsL w v ls) {k : Nat} (hk : v.ownBlock = some k) : k < w.heap.size := by
  obtain ⟨us, h1, h2, _⟩ := h
  exact (World.ownsRow.lt h2 k hk).2
theorem OwnsL.kept {w w' : World} {v : Value} {ls : List (List Nat)} (h : OwnsL w v ls) (k : Kept [] w w') : OwnsL w' v ls := by
  obtain ⟨us, h1, h2, h3⟩ := h
  exact ⟨us, h1, ownsRow_keep h2 k (by simp), fun j u l hu hl => (h3 j u l hu hl).kept k (by simp)⟩
theorem OwnsL.reads {w : World} {v : Value} {ls : List (List Nat)} (h : OwnsL w v ls) : ReadsL w v ls := by
  obtain ⟨us, h1, h2, h3⟩ := h
  have hcells := fun g hg => World.ownsRow.cells h2 (g := g) hg
  rcases h2.2 with ⟨rfl, h0⟩ | ⟨g, cap, cur, rfl, _, hg, e1, e2, _⟩
  · have hn : ls = [] := List.eq_nil_of_length_eq_zero (by omega)
    subst hn
    exact ⟨none, 0, rfl, by simp, by simp, fun j l hl => by simp at hl⟩
  · refine ⟨_, cap, by rw [h1], by omega, e2, fun j l hl => ?_⟩
    have hj : j < us.length := by have := (List.getElem?_eq_some_iff.1 hl).1; omega
    have hu : us[j]? = some us[j] := by simp
    have := hcells g rfl j _ hu
    rw [add_at] at this
    exact ⟨g, 0, us[j], rfl, this, (h3 j _ l hu hl).reads⟩
theorem own_apart {w : World} {v u : Value} {n : Nat} {xs : List Value} {l : List Nat} (h : w.ownsRow 0 36 1 v n xs) (h2 : OwnsI w u l) {g : Nat} (hg : u.ownBlock = some g) : v.ownBlock ≠ some g := fun e => by
  rcases h.2 with ⟨rfl, _⟩ | ⟨g1, cap, cur, rfl, _, hb, _⟩
  · simp [Value.ownBlock] at e
  · rcases h2.2 with ⟨rfl, _⟩ | ⟨g2, cap2, cur2, rfl, _, hb2, _⟩
    · simp [Value.ownBlock] at hg
    · simp [Value.ownBlock] at e hg
      subst e hg
      rw [hb] at hb2
      injection hb2 with hb2
      injection hb2 with _ hb2
      cases hb2
/-- A row of one list. -/
theorem ownsL_one {w : World} {u : Value} {l : List Nat} (h : OwnsI w u l) : OwnsL (w.alloc (.cells #[u] 36)) (.slice (some ⟨w.heap.size, 0, none⟩) 1 1) [l] := by
  refine ⟨[u], rfl, ⟨rfl, .inr ⟨w.heap.size, 1, #[u], rfl, Nat.zero_le _, heap_alloc_new w _, Nat.le_refl _, by unfold maxLen; omega, rfl, rfl⟩⟩, fun j x y hx hy => ?_⟩
  cases j with
  | zero => simp at hx hy; subst hx hy; exact h.kept (kept_alloc w _) (by simp)
  | succ j => simp at hx
theorem ownsI_one (w : World) (m : Nat) : OwnsI (w.alloc (.cells #[.int .i64 (m : Int)] 3)) (.slice (some ⟨w.heap.size, 0, none⟩) 1 1) [m] :=
  ⟨rfl, .inr ⟨w.heap.size, 1, #[.int .i64 (m : Int)], rfl, Nat.zero_le _, heap_alloc_new w _, Nat.le_refl _, by unfold maxLen; omega, rfl, rfl⟩⟩
/-- 'append(v, []int{m})', as its run. -/
theorem append_list {w : World} {v : Value} {ls : List (List Nat)} (ho : OwnsL w v ls) (m : Nat) (hn : ls.length ≤ 1000000) :
    ∃ ad c w', (Builtin.append_ #[72, 72] 72 #[v, .slice (some ⟨w.heap.size + 1, 0, none⟩) 1 1]).run Try.prog ((w.alloc (.cells #[.int .i64 (m : Int)] 3)).alloc (.cells #[.slice (some ⟨w.heap.size, 0, none⟩) 1 1] 36)) = .ok (.slice ad (ls.length + 1) c) w' ∧ OwnsL w' (.slice ad (ls.length + 1) c) (ls ++ [[m]]) ∧ Kept v.ownBlock.toList w w' ∧ New w v (.slice ad (ls.length + 1) c) := by
  have k1 := kept_alloc w (.cells #[.int .i64 (m : Int)] 3)
  have hI := ownsI_one w m
  have hs1 : (w.alloc (.cells #[.int .i64 (m : Int)] 3)).heap.size = w.heap.size + 1 := by simp
  generalize w.alloc (.cells #[.int .i64 (m : Int)] 3) = w1 at k1 hI hs1 ⊢
  have k2 := kept_alloc w1 (.cells #[.slice (some ⟨w.heap.size, 0, none⟩) 1 1] 36)
  have hc2 : (w1.alloc (.cells #[.slice (some ⟨w.heap.size, 0, none⟩) 1 1] 36)).cell? ⟨w.heap.size + 1, 0, none⟩ = some (.slice (some ⟨w.heap.size, 0, none⟩) 1 1) := by
    rw [← hs1]
    exact cell_of_one (heap_alloc_new w1 _)
  have hI2 := hI.kept k2 (by simp)
  generalize w1.alloc (.cells #[.slice (some ⟨w.heap.size, 0, none⟩) 1 1] 36) = w2 at k2 hc2 hI2 ⊢
  have k0 : Kept [] w w2 := k1.trans k2 (by simp)
  obtain ⟨us, h1, h2, h3⟩ := ho
  have h2' := ownsRow_keep h2 k0 (by simp)
  obtain ⟨i0, hi, hz0, hz1, hz2⟩ := info_parts inf36
  obtain ⟨v', w', hrun, e1, e2, e3, e4⟩ := run_append_own_at (P := Try.prog) w2 0 72 72 36 i0 _ 1 24 Try.underlying72 hi hz0 hz1 hz2 rfl (by omega) v us.length us h2' ⟨w.heap.size + 1, 0, none⟩ 1 1 [.slice (some ⟨w.heap.size, 0, none⟩) 1 1] rfl (fun j x hx => by
    cases j with
    | zero => simp at hx; subst hx; rw [add_at]; exact hc2
    | succ j => simp at hx) (by simp [Value.oneCell']) (by unfold maxLen; omega) (by omega) (Nat.zero_le _)
  have k3 : Kept v.ownBlock.toList w2 w' := (Kept.refl _ w2).grown e2 (fun x hx => .inl (by rw [Option.mem_toList]; exact hx))
  obtain ⟨ad, cap, rfl⟩ : ∃ ad cap, v' = .slice ad (ls.length + 1) cap := by
    rcases e1.2 with ⟨rfl, h0⟩ | ⟨g, cap, cur, rfl, _⟩
    · omega
    · exact ⟨_, cap, by rw [h1]⟩
  have hkeep : ∀ u l, OwnsI w2 u l → OwnsI w' u l := fun u l hu => hu.kept k3 (fun g hg hm => own_apart h2' hu hg (by rw [Option.mem_toList] at hm; exact hm))
  refine ⟨ad, cap, w', hrun, ⟨us ++ [.slice (some ⟨w.heap.size, 0, none⟩) 1 1], by simp [h1], by rw [List.length_append]; exact e1, fun j u l hu hl => ?_⟩, (k0.mono (by simp)).trans k3 (fun x hx => .inl hx), fun g hg => ?_⟩
  · by_cases hj : j < us.length
    · rw [List.getElem?_append_left hj] at hu
      rw [List.getElem?_append_left (by omega)] at hl
      exact hkeep u l ((h3 j u l hu hl).kept k0 (by simp))
    · rw [List.getElem?_append_right (by omega)] at hu
      rw [List.getElem?_append_right (by omega), ← h1] at hl
      obtain ⟨d, hd⟩ : ∃ d, j - us.length = d := ⟨_, rfl⟩
      rw [hd] at hu hl
      cases d with
      | zero => simp at hu hl; subst hu hl; exact hkeep _ _ hI2
      | succ d => simp at hu
  · rcases e4 with h | h
    · exact .inl (by rw [← h]; exact hg)
    · have := Option.some.inj (h.symm.trans hg)
      have hs := k0.size
      exact .inr (by omega)
/-- The texts with their names. -/
def kps (L : List Ent) : List Kp := L.map fun x => (x.1, x.2.2)
theorem kps_length (L : List Ent) : (kps L).length = L.length := by simp [kps]
theorem kps_names (L : List Ent) : (kps L).map (·.1) = L.map (·.1) := by simp [kps]
/-- Each number, a list of its own. -/
def ones (l : List Nat) : List (List Nat) := l.map fun x => [x]
theorem ones_append (a b : List Nat) : ones (a ++ b) = ones a ++ ones b := by simp [ones]
theorem ones_flatten (l : List Nat) : (ones l).flatten = l := by
  induction l with
  | nil => rfl
  | cons x r ih => simp [ones] at ih ⊢; exact ih
theorem bls_take_succ {L : List Ent} {j : Nat} {x : Ent} (h : L[j]? = some x) : bls (L.take (j + 1)) = bls (L.take j) ++ x.2.1 := by
  rw [List.take_add_one, h, bls_append]
  simp [bls]
theorem whole_lists {s : St} {fr ct : Nat} {L : List Ent} {fl nf : List Nat} (h : Okp s fr ct L fl) (hr : Rises nf fl) : (nf :: ones (bls L)).flatten.Perm (List.range' fr ct) ∧ ∀ l ∈ nf :: ones (bls L), l.Pairwise (· < ·) := by
  refine ⟨?_, fun l hl => ?_⟩
  · rw [List.flatten_cons, ones_flatten]
    exact (List.perm_append_comm.trans (hr.1.append_left _)).trans h.perm
  · rcases List.mem_cons.1 hl with rfl | hl
    · exact hr.2
    · obtain ⟨x, _, rfl⟩ := List.mem_map.1 hl
      simp

set_option maxRecDepth 100000 in
set_option maxHeartbeats 2000000 in
theorem alike_any {w0 w : World} {q p : Nat} {s : St} {fr ct : Nat} {L : List Ent} {fl X : List Nat} (hS : Sy w0 w q p s fr ct L fl X) (hd : s.down = false) (v : Value) (hv : HoldsK w v (kps L)) :
    Calls Try.prog 21 #[.pointer (some ⟨p, 0, none⟩), v, .int .i64 (fr : Int), .int .i64 (ct : Int)] w fun e w' => e = .returned (.bool true) ∧ Kept [] w w' := by
  have HV := Hid.mk hv
  obtain ⟨a, c, rfl, hc1, hc2⟩ := hv.form
  rw [kps_length] at hc1 HV ⊢
  have hok := hS.ok
  have hfew := hok.few
  have harea := hok.area
  have hnb := hok.nb
  have hna := sy_names hS
  have HS := Hid.mk hS
  have HO := Hid.mk hok
  have hn65 : L.length ≤ 65536 := by omega
  have hfc : fr + ct ≤ 65536 := by omega
  clear hv hS hok hfew harea hnb
  obtain ⟨n, hn⟩ : ∃ n, Hid (L.length = n) := ⟨_, rfl⟩
  rw [hn.out] at hc1 HV hn65 ⊢
  go_enter Try.func21, Try.ntmps21
  go_wp2_with fail
  refine hna.mono ?_
  rintro e w1 ⟨v9, ns, rfl, hO9, hR9, k1, -⟩
  clear hna
  have hnl : ns.length = n := by rw [hR9.1.length_eq, List.length_map, hn.out]
  obtain ⟨a9, c9, rfl, hc91, hc92⟩ := hO9.form
  rw [hnl] at hO9 hc91 ⊢
  have hfr := sy_free (HS.out.kept k1)
  go_wp2_with fail
  refine hfr.mono ?_
  rintro e w2 ⟨v24, nf, rfl, hO24, hR24, k2, -⟩
  clear hfr
  obtain ⟨a24, c24, rfl, -, -⟩ := hO24.form
  have hL3 := ownsL_one hO24
  have k3 := kept_alloc w2 (.cells #[.slice a24 nf.length c24] 36)
  have K2 : Kept [] w w2 := k1.trans k2 (by simp)
  have HO9 := Hid.mk (hO9.kept k2 (by simp))
  have HR9 := Hid.mk hR9
  have HR24 := Hid.mk hR24
  have hF3 : Fresh w2 (.slice (some ⟨w2.heap.size, 0, none⟩) 1 1) := fun g hg => by simp [Value.ownBlock] at hg; omega
  clear hO9 hR9 hR24 k1 k2 hO24
  go_wp2_with fail
  generalize w2.alloc (.cells #[.slice a24 nf.length c24] 36) = w3 at hL3 k3 ⊢
  generalize w2.heap.size = h3 at hL3 hF3 ⊢
  go_loopw [10, 28] (fun u i wr => ∃ j : Nat, i = .int .i64 (j : Int) ∧ j ≤ n ∧ OwnsL wr u (nf :: ones (bls (L.take j))) ∧ Fresh w2 u ∧ Kept [] w2 wr) (fun _ i _ => n - (numOf i).toNat)
  case atStart => exact ⟨0, rfl, Nat.zero_le _, hL3, hF3, k3⟩
  case round =>
    clear hL3 hF3 k3
    obtain ⟨j, rfl, hj, hL, hF, hK⟩ := hrel
    by_cases hjn : j < n
    · have hlt : (j : Int) < (n : Int) := by omega
      obtain ⟨x, hx⟩ : ∃ x, L[j]? = some x := ⟨L[j]'(by have := hn.out; omega), by simp⟩
      have hxL : x ∈ L := List.mem_of_getElem? hx
      have hkj : (kps L)[j]? = some (x.1, x.2.2) := by simp [kps, hx]
      obtain ⟨b, o, c', hve, d0w, d1w⟩ := HV.out.at j _ hkj
      rw [kps_length, hn.out] at hve
      injection hve with e1 e2 e3
      subst e1 e3
      have HD0 : Hid (∀ W, Kept [] w W → W.cell? ⟨b, o + j * 2, none⟩ = some (.int .i64 (x.1 : Int))) := fun W k => by rw [k.cell (World.block_lt_of_cell? w _ d0w) (by simp)]; exact d0w
      have HD1 : Hid (∀ W, Kept [] w W → W.cell? ⟨b, o + j * 2 + 1, none⟩ = some (.string ⟨x.2.2.toArray⟩)) := fun W k => by rw [k.cell (World.block_lt_of_cell? w _ d1w) (by simp)]; exact d1w
      have hKw := K2.trans hK (by simp)
      have d0 := HD0.out _ hKw
      have hSr := HS.out.kept hKw
      have hget := sy_get hSr hd x hxL
      have hbk := fun W (k : Kept [] wr W) => sy_blocks (hSr.kept k) x hxL
      have hlies := HO.out.lies x hxL
      have hblen := hlies.len
      have hTle := hlies.long
      have hfirst := hlies.first
      clear hSr d0w d1w e2 hlies hkj
      obtain ⟨T, hT⟩ : ∃ T, Hid (x.2.2.length = T) := ⟨_, rfl⟩
      rw [hT.out] at hblen hTle
      obtain ⟨au, cu, hu⟩ := hL.form
      subst hu
      obtain ⟨U, hU⟩ : ∃ U, Hid ((nf :: ones (bls (L.take j))).length = U) := ⟨_, rfl⟩
      rw [hU.out] at hL hF ⊢
      go_wp2_with fail
      refine hget.mono ?_
      rintro e w4 ⟨v12, rfl, hO12, k4, hF12⟩
      obtain ⟨a12, c12, rfl⟩ := hO12.form
      rw [hT.out] at hO12 ⊢
      have hb4 := hbk w4 k4
      have d0' := HD0.out w4 (hKw.trans k4 (by simp))
      clear hget hbk d0
      go_wp2_with fail
      refine hb4.mono ?_
      rintro e w5 ⟨v14, rfl, hFS, k5, hF14⟩
      clear hb4 d0'
      have hRd := hFS.reads
      obtain ⟨a14, c14, rfl, hc141, hc142⟩ := hRd.form
      have hlt14 : ∀ g, (Value.slice a14 x.2.1.length c14).ownBlock = some g → g < w5.heap.size ∧ (Value.slice au U cu).ownBlock ≠ some g := fun g hg => ⟨hFS.lt hg, fun e => by have := hL.lt e; have := hF14 g hg; have := k4.size; omega⟩
      have hK5 : Kept [] w2 w5 := (hK.trans k4 (by simp)).trans k5 (by simp)
      have hL5 := (hL.kept k4).kept k5
      have hKw5 := K2.trans hK5 (by simp)
      have d0 := HD0.out w5 hKw5
      have d1 := HD1.out w5 hKw5
      have hst := fun k => str34 _ _ _ ((hO12.kept k5 (by simp)).reads.kept ((Kept.refl [] w5).drewN k) (by simp))
      have htb := tb_any T (by omega) w5
      rw [hblen] at hRd hlt14 hc141 ⊢
      have hb0 : x.2.1[0]? = some x.1 := by rw [← List.head?_eq_getElem?]; exact hfirst
      obtain ⟨g14, o14, c14', hve, hc0⟩ := hRd.at 0 x.1 hb0
      rw [hblen] at hve
      injection hve with e1 e2 e3
      subst e1 e3
      rw [Nat.add_zero] at hc0
      have hb0' : (0 : Int) < (bks T : Int) := by have := bks_pos T; omega
      have hj65 : j ≤ 65536 := by omega
      have hb0n : 0 < bks T := bks_pos T
      have htq : ∀ k, Calls Try.prog 13 #[.int .i64 (T : Int)] (w5.drewN k) fun e w' => e = .returned (.int .i64 (bks T : Int)) ∧ w' = w5.drewN k := fun k => (tb_any T (by omega) (w5.drewN k)).mono fun e w' ⟨he, hw⟩ => ⟨he, hw.symm⟩
      have HRd := Hid.mk hRd
      have HL5 := Hid.mk hL5
      have HK5 := Hid.mk hK5
      have HF := Hid.mk hF
      have HB := Hid.mk hlt14
      have H9 := HO9.out.kept hK5 (by simp)
      clear htb hRd hL5 hK5 hKw5 hF hlt14 hL hK hO12 k4 k5 hF12 hF14 hFS hKw e2 hb0 hfirst hc141 hc142
      rcases Nat.eq_zero_or_pos j with h0 | h0
      case' inl =>
        have t0 : decide ((0 : Int) < (j : Int)) = false := decide_eq_false (by omega)
        have t1 : decide (0 < j) = false := decide_eq_false (by omega)
        clear H9 h0
        go_wp2_with fail
        go_quiet ((go_at_call 13; exact Calls.quiet_of_same (htq _)))
      case' inr =>
        obtain ⟨j', hj'⟩ : ∃ j', j = j' + 1 := ⟨j - 1, by omega⟩
        obtain ⟨y, hy⟩ : ∃ y, ns[j']? = some y := ⟨ns[j']'(by omega), by simp⟩
        obtain ⟨z, hz⟩ : ∃ z, ns[j]? = some z := ⟨ns[j]'(by omega), by simp⟩
        obtain ⟨g9, c9', hve, hcy⟩ := H9.at j' y hy
        obtain ⟨g9', c9'', hve', hcz⟩ := H9.at j z hz
        rw [hnl] at hve hve'
        injection hve with e1 e2 e3
        injection hve' with e1' e2' e3'
        subst e1 e3
        injection e1' with e1'
        injection e1' with e1' _ _
        subst e1'
        have hyz : y < z := by
          obtain ⟨h1, h2⟩ := List.getElem?_eq_some_iff.1 hy
          obtain ⟨h3, h4⟩ := List.getElem?_eq_some_iff.1 hz
          have := List.pairwise_iff_getElem.1 HR9.out.2 j' j h1 h3 (by omega)
          rw [h2, h4] at this
          exact this
        have t0 : decide ((0 : Int) < (j : Int)) = true := decide_eq_true (by omega)
        have t1 : decide (0 < j) = true := decide_eq_true (by omega)
        have t2 : (j : Int) - 1 = (j' : Int) := by omega
        have t3 : (j' : Int) < (n : Int) := by omega
        have t4 : decide ((z : Int) ≤ (y : Int)) = false := decide_eq_false (by omega)
        have t5 : decide (z ≤ y) = false := decide_eq_false (by omega)
        clear H9 h0 hj' hy hz e2 e2' e3' hyz
        go_wp2_with fail
        go_quiet ((go_at_call 13; exact Calls.quiet_of_same (htq _)))
      all_goals
        have k6 := (Kept.refl [] w5).drewN nq
        have hRd := HRd.out.kept k6 (by simp)
        have hL6 := HL5.out.kept k6
        have hK6 := HK5.out.trans k6 (by simp)
        have hB6 : ∀ g, (Value.slice (some ⟨g14, o14, none⟩) (bks T) c14).ownBlock = some g → g < (w5.drewN nq).heap.size ∧ (Value.slice au U cu).ownBlock ≠ some g := fun g hg => ⟨Nat.lt_of_lt_of_le (HB.out g hg).1 k6.size, (HB.out g hg).2⟩
        have hF6 := HF.out
        have hbT := bks_le hTle
        have hbl65 : (bls (L.take j)).length ≤ 65536 := by
          have h1 := HO.out.length
          have h2 : bls L = bls (L.take j) ++ bls (L.drop j) := by rw [← bls_append, List.take_append_drop]
          rw [h2, List.length_append] at h1
          omega
        rw [show bls (L.take j) = bls (L.take j) ++ x.2.1.take 0 by simp] at hL6
        clear HRd HL5 HK5 HB HF k6 t0 t1 htq hst hc0 d0 d1 hU hTle
        generalize w5.drewN nq = w6 at hRd hL6 hK6 hB6 ⊢
        go_wp2_with fail
        go_loopw [10, 97] (fun u i wr => ∃ k : Nat, i = .int .i64 (k : Int) ∧ k ≤ bks T ∧ OwnsL wr u (nf :: ones (bls (L.take j) ++ x.2.1.take k)) ∧ Fresh w2 u ∧ Kept [] w2 wr ∧ ReadsI wr (.slice (some ⟨g14, o14, none⟩) (bks T) c14) x.2.1 ∧ ∀ g, (Value.slice (some ⟨g14, o14, none⟩) (bks T) c14).ownBlock = some g → g < wr.heap.size ∧ u.ownBlock ≠ some g) (fun _ i _ => bks T - (numOf i).toNat)
        case atStart => exact ⟨0, rfl, Nat.zero_le _, hL6, hF6, hK6, hRd, hB6⟩
        case round =>
          clear hL6 hF6 hK6 hRd hB6
          obtain ⟨k, rfl, hk, hL, hF, hK, hRd, hB⟩ := hrel
          obtain ⟨au2, cu2, hu2⟩ := hL.form
          subst hu2
          by_cases hkT : k < bks T
          · have hlt2 : (k : Int) < (bks T : Int) := by omega
            obtain ⟨y, hy⟩ : ∃ y, x.2.1[k]? = some y := ⟨x.2.1[k]'(by omega), by simp⟩
            obtain ⟨g2, o2, c2, hve, hcy⟩ := hRd.at k y hy
            rw [hblen] at hve
            injection hve with e1 e2 e3
            injection e1 with e1
            injection e1 with e1 e4 _
            subst e1 e4
            have htk : nf :: ones (bls (L.take j) ++ x.2.1.take (k + 1)) = nf :: ones (bls (L.take j) ++ x.2.1.take k) ++ [[y]] := by
              rw [List.take_add_one, hy, ← List.append_assoc, ones_append]
              simp [ones]
            have hlen : (nf :: ones (bls (L.take j) ++ x.2.1.take k)).length ≤ 1000000 := by
              simp [ones]
              omega
            obtain ⟨ad, cd, w7, hrun, hO7, k7, hN7⟩ := append_list hL y hlen
            rw [← htk] at hO7
            obtain ⟨U2, hU2⟩ : ∃ U2, Hid ((nf :: ones (bls (L.take j) ++ x.2.1.take k)).length = U2) := ⟨_, rfl⟩
            rw [hU2.out] at hrun hO7 hN7 hF hB k7 ⊢
            have HO7 := Hid.mk hO7
            have HF7 : Hid (Fresh w2 (.slice ad (U2 + 1) cd)) := fun g hg => by
              rcases hN7 g hg with h | h
              · exact hF g h
              · exact Nat.le_trans hK.size h
            have HK7 : Hid (Kept [] w2 w7) := hK.trans k7 (fun z hz => .inr (hF z (by simpa using hz)))
            have HR7 : Hid (ReadsI w7 (.slice (some ⟨g14, o14, none⟩) (bks T) c14) x.2.1) := hRd.kept k7 (fun g hg hm => (hB g hg).2 (by simpa using hm))
            have HB7 : Hid (∀ g, (Value.slice (some ⟨g14, o14, none⟩) (bks T) c14).ownBlock = some g → g < w7.heap.size ∧ (Value.slice ad (U2 + 1) cd).ownBlock ≠ some g) := fun g hg => ⟨Nat.lt_of_lt_of_le (hB g hg).1 k7.size, fun e => by
              rcases hN7 g e with h | h
              · exact (hB g hg).2 h
              · have := (hB g hg).1; omega⟩
            clear hL hF hK hRd hB hO7 k7 hN7 htk hy hlen e2 e3
            go_wp2_with (at_builtin; refine wpList_append_run 72 _ _ rfl rfl _ _ rfl rfl _ _ hrun ?_)
            exact ⟨⟨k + 1, by go_num, by omega, HO7.out, HF7.out, HK7.out, HR7.out, HB7.out⟩, by simp [numOf]; omega⟩
          · obtain rfl : k = bks T := by omega
            have hni : ¬ (bks T : Int) < (bks T : Int) := by omega
            have hE : bls (L.take j) ++ x.2.1.take (bks T) = bls (L.take (j + 1)) := by rw [List.take_of_length_le (l := x.2.1) (by omega), ← bls_take_succ hx]
            rw [hE] at hL hF ⊢
            have HL := Hid.mk hL
            have HF := Hid.mk hF
            have HK := Hid.mk hK
            clear hL hF hK hRd hB
            go_wp2_with fail
            exact ⟨⟨j + 1, by go_num, by omega, HL.out, HF.out, HK.out⟩, by simp [numOf]; omega⟩
    · obtain rfl : j = n := by omega
      have hni : ¬ (j : Int) < (j : Int) := by omega
      rw [List.take_of_length_le (by have := hn.out; omega)] at hL
      obtain ⟨hw1, hw2⟩ := whole_lists HO.out HR24.out
      have hwh := whole_any _ _ _ fr ct (fr + ct) hL.reads (by omega) (Hid.mk rfl) hfc hw1 hw2
      rw [Int.natCast_add] at hwh
      have hKw := K2.trans hK (by simp)
      clear hL hF hK hw1 hw2
      go_wp2_with fail
      refine hwh.mono ?_
      rintro e w7 ⟨rfl, k7⟩
      have hK7 := hKw.trans k7 (by simp)
      clear hwh hKw k7
      go_wp2
      go_ret
      exact ⟨rfl, hK7⟩
end Go.Proofs.Ytilelklcfgemoaa
