import Derived.Sort.Walk0
import Derived.Test.YtgpbhlfdlkemjaaGreatQ32
/-
  Keys, the walk.
-/
namespace Go.Proofs.YtgpbhlfdlkemjaaGreat
open Go.RowKit Go.Shelf
set_option linter.unusedVariables false
attribute [local go_sem] Oper.semAt_some

/-- What is collected, when the loop's block is shut. -/
theorem KI.leave {w : World} {bt bk : Nat} {to : List UInt8} {pre : List Itm} {W : World} (h : KI w bt bk to pre W) {D : Nat} (hD : w.heap.size ≤ D) (hK : W.heap[D]? = some (.deferred (some []))) : ∃ ad c, W.cell? ⟨bk, 0, none⟩ = some (.slice ad pre.length c) ∧ Hid (OwnsR 9 1 (W.putObj D (.deferred none)) (.slice ad pre.length c) (CS (pre.map Itm.key)) ∧ Kept [] w (W.putObj D (.deferred none)) ∧ Fresh w (.slice ad pre.length c)) := by
  obtain ⟨ad, c, h1, h2, h3, h4, h5, h6, h7, h8⟩ := h
  have hgp := grownBy_putObj' W D (.deferred none)
  have kp : Kept [D] W (W.putObj D (.deferred none)) := (Kept.refl _ _).grown hgp (fun x hx => .inl (by simp at hx; simp [hx]))
  refine ⟨ad, c, h2.cell, Hid.mk ⟨h3.kept kp (fun g hg hm => ?_), h7.trans kp (fun x hx => .inr (by simp at hx; omega)), h4⟩⟩
  simp at hm
  subst hm
  rcases h3.2 with ⟨h, _⟩ | ⟨g', cap', cur, h, _, hg', _⟩
  · injection h with h; subst h; simp [Value.ownBlock] at hg
  · injection h with h
    subst h
    simp [Value.ownBlock] at hg
    subst hg
    rw [hK] at hg'
    cases hg'
section
variable {w : World} {F : Nat → Prop} {ρ : Rho} {t : AT}
set_option maxRecDepth 100000 in
set_option maxHeartbeats 4000000 in
theorem keys_in {tb : Nat} (c1 : w.cell? ⟨tb, 1, none⟩ = some (ptrT t)) (hT : IsT w F ρ t) (hu : Up (itsT t)) (hF : ∀ b, F b → b < w.heap.size) (hl : (itsT t).length ≤ 100000) (fr to : List UInt8) :
    CallsIn Fence.wide 3 Tryz.prog 20 #[Pp tb, Sv fr, Sv to] w fun e w' => ∃ v, e = .returned v ∧ OwnsR 9 1 w' v (CS ((inRange fr to (itsT t)).map Itm.key)) ∧ Kept [] w w' ∧ Fresh w v := by
  have htb := World.block_lt_of_cell? _ _ c1
  obtain ⟨w1, hw1⟩ : ∃ w1, Hid ((w.alloc (.cells #[Sv to] 9)).alloc (.cells #[.slice none 0 0] 46) = w1) := ⟨_, rfl⟩
  have k1 : Kept [] w w1 := by rw [← hw1.out]; exact ((Kept.refl [] w).alloc _).alloc _
  have hz1 : Hid (w1.heap.size = w.heap.size + 1 + 1) := Hid.mk (by rw [← hw1.out]; simp)
  have d1 : w1.cell? ⟨tb, 1, none⟩ = some (ptrT t) := by rw [k1.cell htb (by simp)]; exact c1
  obtain ⟨w2, hw2⟩ : ∃ w2, Hid ((w1.alloc (.cells #[ptrT t] 77)).alloc (.cells #[Sv fr] 9) = w2) := ⟨_, rfl⟩
  have k2 : Kept [] w1 w2 := by rw [← hw2.out]; exact ((Kept.refl [] w1).alloc _).alloc _
  have hz2 : Hid (w2.heap.size = w1.heap.size + 1 + 1) := Hid.mk (by rw [← hw2.out]; simp)
  have kw2 := k1.trans k2 (by simp)
  have e3 : w2.cell? ⟨w1.heap.size, 0, none⟩ = some (ptrT t) := by
    have h1 : (w1.alloc (.cells #[ptrT t] 77)).heap[w1.heap.size]? = some (.cells #[ptrT t] 77 (0, 0)) := heap_alloc_new w1 _
    have h2 : w2.heap[w1.heap.size]? = some (.cells #[ptrT t] 77 (0, 0)) := by rw [← hw2.out]; exact (kept_alloc _ _).keeps h1 (by simp)
    simp [World.cell?, h2]
  have e4 : w2.cell? ⟨w1.heap.size + 1, 0, none⟩ = some (Sv fr) := by
    have h2 : w2.heap[w1.heap.size + 1]? = some (.cells #[Sv fr] 9 (0, 0)) := by
      rw [← hw2.out]
      have := heap_alloc_new (w1.alloc (.cells #[ptrT t] 77)) (.cells #[Sv fr] 9)
      simpa using this
    simp [World.cell?, h2]
  have hit := itemsFrom_in 2 (ptrT t) (ptrT_form t) fr w1
  rw [hw2.out] at hit
  have hbt1 : B1 w1 w.heap.size 9 (Sv to) := by
    rw [← hw1.out]
    exact (kept_alloc _ _).keeps (heap_alloc_new w _) (by simp)
  have hbk1 : B1 w1 (w.heap.size + 1) 46 (.slice none 0 0) := by
    rw [← hw1.out]
    have := heap_alloc_new (w.alloc (.cells #[Sv to] 9)) (.cells #[.slice none 0 0] 46)
    unfold B1
    simpa using this
  have hst : KI w w.heap.size (w.heap.size + 1) to [] w2 := ⟨none, 0, hbt1.kept k2 (by simp), hbk1.kept k2 (by simp), OwnsR.nil _ _ _, by intro g hg; simp [Value.ownBlock] at hg, by simp [Value.ownBlock], by simp [Value.ownBlock], kw2, by simp⟩
  have hseq := items_stops (w := w2) (t := t) 2 (n₀ := w.heap.size) (hT.kept kw2 (by simp)) hu hF kw2.size e3 e4
  have hI : OwnFrom w2.heap.size (fun (pre : List (Sx t)) W => KI w w.heap.size (w.heap.size + 1) to (pre.map Subtype.val) W) := fun pre A B row h hg hr' => h.own hg (fun r e => ⟨Nat.le_trans kw2.size (hr' r e).1, (hr' r e).2⟩)
  have HI := Hid.mk hI
  have HS := Hid.mk hst
  have HQ := Hid.mk hseq
  have HIT : Hid (∀ (x : Sx t) W, Kept [] w W → W.cell? ⟨x.1.ad, 2, none⟩ = some (Sv x.1.key)) := Hid.mk fun x W kW => by
    have hx := x.2
    cases t with
    | none => simp [itsT] at hx
    | some n =>
      obtain ⟨_, _, _, _, h2, _⟩ := ((hT.1.item x.1 hx).kept kW (by simp)).cells
      exact h2
  have HXL : Hid (∀ (x : Sx t), x.1.ad < w.heap.size) := Hid.mk fun x => by
    have hx := x.2
    cases t with
    | none => simp [itsT] at hx
    | some n => exact (hT.1.item x.1 hx).lt
  have hbk3 : Hid (w.heap.size + 1 < w2.heap.size) := Hid.mk (by have := hz1.out; have := hz2.out; omega)
  have HU := Hid.mk hu
  have hsz2 : Hid (w.heap.size ≤ w2.heap.size) := Hid.mk kw2.size
  clear hI hst hseq hbt1 hbk1 e3 e4 k1 k2 kw2 hT hF hu c1
  obtain ⟨P, hP⟩ : ∃ P, Hid (ptrT t = P) := ⟨_, rfl⟩
  rw [hP.out] at d1 hit
  refine callsIn_of_wp_marks Tryz.func20 rfl trivial ?_ rfl
  simp only [Tryz.ntmps20, List.size_toArray, List.length_cons, List.length_nil, Nat.reduceAdd, Nat.reduceSub, Array.replicate_succ, Array.replicate_zero, List.push_toArray, List.append_toArray, List.nil_append, List.cons_append]
  have d1' := d1
  rw [← hw1.out] at d1'
  gi_wp2_with fail
  rw [hw1.out]
  refine ⟨trivial, hit.mono ?_⟩
  rintro e w3 ⟨rfl, rfl⟩
  clear hit d1 d1'
  gi_wp2_with fail
  refine wpIn_rangeFunc_ownG rfl (by omega) (gf := 88) (lb := #[Pp w1.heap.size, Pp (w1.heap.size + 1)]) rfl trivial (enters_of Tryz.func88 (by kernel_rfl) rfl) HQ.out belowK_t (belowK_b hsz2.out) (Below.refl _ _) (fun _ => rfl)
    (fun (pre : List (Sx t)) W => KI w w.heap.size (w.heap.size + 1) to (pre.map Subtype.val) W) (fun c pre W => c = .exit 0 ∧ ∃ (p : List Itm) (x : Itm), pre.map Subtype.val = p ++ [x] ∧ to ≠ [] ∧ ¬ x.key < to ∧ KI w w.heap.size (w.heap.size + 1) to p W) HI.out (fun c pre A B row h hg hr' => ?hix) HS.out ?a1 ?assign ?body ?done ?stop
  case hix =>
    obtain ⟨h1, p, x, h2, h3, h4, h5⟩ := h
    exact ⟨h1, p, x, h2, h3, h4, h5.own hg (fun r e => ⟨Nat.le_trans hsz2.out (hr' r e).1, (hr' r e).2⟩)⟩
  case assign =>
    intro l' x W K hK
    gi_wp2
    exact hK
  case body =>
    rintro l' pre x W hKI hlt
    have kk : Kept [] w W := by obtain ⟨_, _, _, _, _, _, _, _, kk, _⟩ := hKI; exact kk
    have cx := HIT.out x W kk
    have ct : W.cell? ⟨w.heap.size, 0, none⟩ = some (Sv to) := by obtain ⟨_, _, h1, _⟩ := hKI; exact h1.cell
    have cx' : W.drew.cell? ⟨x.1.ad, 2, none⟩ = some (Sv x.1.key) := cx
    have ct' : W.drew.cell? ⟨w.heap.size, 0, none⟩ = some (Sv to) := ct
    have HKI := Hid.mk hKI
    have hmix : Tryz.prog.follows .mixedOrders = true := by kernel_rfl
    clear hKI kk HIT HI HS HQ
    have kd : Kept [] W W.drew := (Kept.refl [] W).drew
    have HK2 : Hid (KI w w.heap.size (w.heap.size + 1) to (pre.map Subtype.val) W.drew) := Hid.mk (HKI.out.own (row := none) ⟨rfl, rfl, rfl, Nat.le_refl _, fun _ _ _ => rfl⟩ (fun r e => by cases e))
    have hplen : pre.length ≤ 900000 := by omega
    have HMORE : Hid ((to = [] ∨ x.1.key < to) → ∃ ad c ad2 c2 w4, W.drew.cell? ⟨w.heap.size + 1, 0, none⟩ = some (.slice ad pre.length c) ∧ (W.drew.drew.alloc (.cells #[Sv x.1.key] 9)).cell? ⟨w.heap.size + 1, 0, none⟩ = some (.slice ad pre.length c) ∧ (Builtin.append_ #[46, 46] 46 #[.slice ad pre.length c, .slice (some ⟨W.heap.size, 0, none⟩) 1 1]).run Tryz.prog (W.drew.drew.alloc (.cells #[Sv x.1.key] 9)) = .ok (.slice ad2 (pre.length + 1) c2) w4 ∧ w4.cell? ⟨w.heap.size + 1, 0, none⟩ = some (.slice ad pre.length c) ∧ w4.frozen? ⟨w.heap.size + 1, 0, none⟩ = false ∧ (W.drew.drew.alloc (.cells #[Sv x.1.key] 9)).cell? ⟨x.1.ad, 2, none⟩ = some (Sv x.1.key) ∧ w4.cell? ⟨x.1.ad, 2, none⟩ = some (Sv x.1.key) ∧ (w4.setCell ⟨w.heap.size + 1, 0, none⟩ (.slice ad2 (pre.length + 1) c2)).cell? ⟨x.1.ad, 2, none⟩ = some (Sv x.1.key) ∧ Hid (KeepsFrom w3.heap.size W (w4.setCell ⟨w.heap.size + 1, 0, none⟩ (.slice ad2 (pre.length + 1) c2)) ∧ Below w.heap.size W (w4.setCell ⟨w.heap.size + 1, 0, none⟩ (.slice ad2 (pre.length + 1) c2)) ∧ KI w w.heap.size (w.heap.size + 1) to ((pre ++ [x]).map Subtype.val) (w4.setCell ⟨w.heap.size + 1, 0, none⟩ (.slice ad2 (pre.length + 1) c2)))) := Hid.mk fun hx => by
      have hll : (pre.map Subtype.val).length = pre.length := by simp
      obtain ⟨ad, c, ad2, c2, w4, g1, g2, g3, g4, g5, g6⟩ := HK2.out.more (Nat.le_refl _) (by omega) (by omega) (x := x.1) hx (by rw [hll]; exact hplen)
      rw [hll] at g1 g2 g3 g4 g5 g6
      have ka : Kept [] W.drew (W.drew.drew.alloc (.cells #[Sv x.1.key] 9)) := (Kept.refl [] W.drew).drew.alloc _
      have hxlt : x.1.ad < w.heap.size := HXL.out x
      have hbl := hbk3.out
      have hxW : x.1.ad < W.drew.heap.size := World.block_lt_of_cell? _ _ cx'
      have c4 : (w4.setCell ⟨w.heap.size + 1, 0, none⟩ (.slice ad2 (pre.length + 1) c2)).cell? ⟨x.1.ad, 2, none⟩ = some (Sv x.1.key) := (g6.cell (p := ⟨x.1.ad, 2, none⟩) hxlt).trans cx'
      have c4' : w4.cell? ⟨x.1.ad, 2, none⟩ = some (Sv x.1.key) := by
        have hne : (⟨x.1.ad, 2, none⟩ : Addr).block ≠ (⟨w.heap.size + 1, 0, none⟩ : Addr).block := by show x.1.ad ≠ w.heap.size + 1; omega
        have := World.cell?_of_block (w := w4) (a := ⟨x.1.ad, 2, none⟩) (Below.heap_setCell w4 ⟨w.heap.size + 1, 0, none⟩ (.slice ad2 (pre.length + 1) c2) x.1.ad hne)
        rw [← this]
        exact c4
      refine ⟨ad, c, ad2, c2, w4, g1.cell, by rw [ka.cell g1.lt (by simp)]; exact g1.cell, g2, g3.cell, g3.free, by rw [ka.cell hxW (by simp)]; exact cx', c4', c4, Hid.mk ⟨((KeepsOthers.drew W).trans g5).from _, ?_, by rw [List.map_append]; exact g4⟩⟩
      exact (show Below w.heap.size W W.drew from ⟨rfl, rfl, rfl, Nat.le_refl _, fun _ _ => rfl⟩).trans g6
    have HSTOP : Hid (to ≠ [] → ¬ x.1.key < to → KeepsFrom w3.heap.size W W.drew ∧ ((Code.exit 0 : Code) = .exit 0 ∧ ∃ (p : List Itm) (y : Itm), (pre ++ [x]).map Subtype.val = p ++ [y] ∧ to ≠ [] ∧ ¬ y.key < to ∧ KI w w.heap.size (w.heap.size + 1) to p W.drew)) := Hid.mk fun h1 h2 => ⟨(KeepsOthers.drew W).from _, rfl, pre.map Subtype.val, x.1, by simp, h1, h2, HK2.out⟩
    have S0 : W.drew.drew.cell? ⟨x.1.ad, 2, none⟩ = some (Sv x.1.key) := cx'
    generalize x.1.ad = X at *
    generalize x.1.key = xk at *
    clear HK2 HKI kd
    by_cases hto : to = []
    · have hem : to.isEmpty = true := by rw [hto]; rfl
      gi_wp2_with fail
      gi_region_with_o (fail)
      all_goals
        obtain ⟨ad, c, ad2, c2, w4, b0, b1, hrun, d4, f4, S1, S2, S3, HFIN⟩ := HMORE.out (.inl hto)
        have b1' : (W.alloc (.cells #[Sv xk] 9)).cell? ⟨w.heap.size + 1, 0, none⟩ = some (.slice ad pre.length c) := b1
        have b0' : W.cell? ⟨w.heap.size + 1, 0, none⟩ = some (.slice ad pre.length c) := b0
        clear HMORE HSTOP
        gi_wp2_with fail
        refine wpIn_region_held (S := fun w' => w'.cell? ⟨X, 2, none⟩ = some (Sv xk)) (by kernel_rfl) (by kernel_rfl) (by rintro ⟨_, _, h⟩; exact h) S0 (fun _ => ?_)
        refine wpAnyH_take (i := 1) (v := Pp X) rfl (by kernel_rfl) (by kernel_rfl) (by kernel_rfl) (fun _ _ _ h => h) (Or.inl ⟨by rfl, fun w hS => by go_simp⟩) S0 ?_
        go_simp
        refine wpAnyH_take (i := 2) (v := .pointer (some ⟨X, 0, none⟩)) rfl (by kernel_rfl) (by kernel_rfl) (by kernel_rfl) (fun _ _ _ h => h) (Or.inl ⟨by rfl, fun w hS => by go_simp⟩) S0 ?_
        go_simp
        refine wpAnyH_take (i := 3) (v := .pointer (some ⟨X, 2, none⟩)) rfl (by kernel_rfl) (by kernel_rfl) (by kernel_rfl) (fun _ _ _ h => h) (Or.inl ⟨by rfl, fun w hS => by go_simp⟩) S0 ?_
        go_simp
        refine wpAnyH_take (i := 4) (v := Sv xk) rfl (by kernel_rfl) (by kernel_rfl) (by kernel_rfl) (fun _ _ _ h => h) (Or.inl ⟨by rfl, fun w hS => by have hS' : w.cell? ⟨X, 2, none⟩ = some (Sv xk) := hS; go_simp⟩) S0 ?_
        go_simp
        refine wpAnyH_ready (rs := [0, 5]) (by kernel_rfl) (by simp) (AllReadyH.cons rfl (fun K hK => ?_) (AllReadyH.cons rfl (fun K hK => ?_) AllReadyH.nil))
        · go_simp
          refine hK.out _ _ S0 (fun _ => ?_)
          clear hK K
          go_simp
          refine wpAnyH_ready (rs := [5]) (by kernel_rfl) (by simp) (AllReadyH.cons rfl (fun K hK => ?_) AllReadyH.nil)
          go_simp
          refine hK.out _ _ S1 (fun _ => ?_)
          clear hK K
          go_simp
          refine wpAnyH_ready (rs := [6]) (by kernel_rfl) (by simp) (AllReadyH.cons rfl (fun K hK => ?_) AllReadyH.nil)
          refine step_append_run 46 (.tmp 28) (.tmp 33) (by rfl) (by rfl) _ _ (by rfl) (by rfl) hrun ?_
          refine hK.out _ _ S2 (fun _ => ?_)
          clear hK K
          go_simp
          refine wpAnyH_ready (rs := [7]) (by kernel_rfl) (by simp) (AllReadyH.cons rfl (fun K hK => ?_) AllReadyH.nil)
          go_simp
          refine hK.out _ _ S3 (fun _ => ?_)
          clear hK K
          go_simp
          refine wpAnyH_done (by kernel_rfl) ?_ _
          gi_wp2
          exact HFIN.out
        · go_simp
          refine hK.out _ _ S1 (fun _ => ?_)
          clear hK K
          go_simp
          refine wpAnyH_ready (rs := [0]) (by kernel_rfl) (by simp) (AllReadyH.cons rfl (fun K hK => ?_) AllReadyH.nil)
          go_simp
          refine hK.out _ _ S1 (fun _ => ?_)
          clear hK K
          go_simp
          refine wpAnyH_ready (rs := [6]) (by kernel_rfl) (by simp) (AllReadyH.cons rfl (fun K hK => ?_) AllReadyH.nil)
          refine step_append_run 46 (.tmp 28) (.tmp 33) (by rfl) (by rfl) _ _ (by rfl) (by rfl) hrun ?_
          refine hK.out _ _ S2 (fun _ => ?_)
          clear hK K
          go_simp
          refine wpAnyH_ready (rs := [7]) (by kernel_rfl) (by simp) (AllReadyH.cons rfl (fun K hK => ?_) AllReadyH.nil)
          go_simp
          refine hK.out _ _ S3 (fun _ => ?_)
          clear hK K
          go_simp
          refine wpAnyH_done (by kernel_rfl) ?_ _
          gi_wp2
          exact HFIN.out
    · have hem : to.isEmpty = false := by cases e : to with | nil => exact absurd e hto | cons _ _ => rfl
      by_cases hk : xk < to
      · have hless : Op.bytesLess xk to = true := by rw [bytesLess_eq]; simpa using hk
        gi_wp2_with fail
        gi_region_with_o (fail)
        all_goals
          obtain ⟨ad, c, ad2, c2, w4, b0, b1, hrun, d4, f4, S1, S2, S3, HFIN⟩ := HMORE.out (.inr hk)
          have b1' : (W.alloc (.cells #[Sv xk] 9)).cell? ⟨w.heap.size + 1, 0, none⟩ = some (.slice ad pre.length c) := b1
          have b0' : W.cell? ⟨w.heap.size + 1, 0, none⟩ = some (.slice ad pre.length c) := b0
          clear HMORE HSTOP
          gi_wp2_with fail
          refine wpIn_region_held (S := fun w' => w'.cell? ⟨X, 2, none⟩ = some (Sv xk)) (by kernel_rfl) (by kernel_rfl) (by rintro ⟨_, _, h⟩; exact h) S0 (fun _ => ?_)
          refine wpAnyH_take (i := 1) (v := Pp X) rfl (by kernel_rfl) (by kernel_rfl) (by kernel_rfl) (fun _ _ _ h => h) (Or.inl ⟨by rfl, fun w hS => by go_simp⟩) S0 ?_
          go_simp
          refine wpAnyH_take (i := 2) (v := .pointer (some ⟨X, 0, none⟩)) rfl (by kernel_rfl) (by kernel_rfl) (by kernel_rfl) (fun _ _ _ h => h) (Or.inl ⟨by rfl, fun w hS => by go_simp⟩) S0 ?_
          go_simp
          refine wpAnyH_take (i := 3) (v := .pointer (some ⟨X, 2, none⟩)) rfl (by kernel_rfl) (by kernel_rfl) (by kernel_rfl) (fun _ _ _ h => h) (Or.inl ⟨by rfl, fun w hS => by go_simp⟩) S0 ?_
          go_simp
          refine wpAnyH_take (i := 4) (v := Sv xk) rfl (by kernel_rfl) (by kernel_rfl) (by kernel_rfl) (fun _ _ _ h => h) (Or.inl ⟨by rfl, fun w hS => by have hS' : w.cell? ⟨X, 2, none⟩ = some (Sv xk) := hS; go_simp⟩) S0 ?_
          go_simp
          refine wpAnyH_ready (rs := [0, 5]) (by kernel_rfl) (by simp) (AllReadyH.cons rfl (fun K hK => ?_) (AllReadyH.cons rfl (fun K hK => ?_) AllReadyH.nil))
          · go_simp
            refine hK.out _ _ S0 (fun _ => ?_)
            clear hK K
            go_simp
            refine wpAnyH_ready (rs := [5]) (by kernel_rfl) (by simp) (AllReadyH.cons rfl (fun K hK => ?_) AllReadyH.nil)
            go_simp
            refine hK.out _ _ S1 (fun _ => ?_)
            clear hK K
            go_simp
            refine wpAnyH_ready (rs := [6]) (by kernel_rfl) (by simp) (AllReadyH.cons rfl (fun K hK => ?_) AllReadyH.nil)
            refine step_append_run 46 (.tmp 28) (.tmp 33) (by rfl) (by rfl) _ _ (by rfl) (by rfl) hrun ?_
            refine hK.out _ _ S2 (fun _ => ?_)
            clear hK K
            go_simp
            refine wpAnyH_ready (rs := [7]) (by kernel_rfl) (by simp) (AllReadyH.cons rfl (fun K hK => ?_) AllReadyH.nil)
            go_simp
            refine hK.out _ _ S3 (fun _ => ?_)
            clear hK K
            go_simp
            refine wpAnyH_done (by kernel_rfl) ?_ _
            gi_wp2
            exact HFIN.out
          · go_simp
            refine hK.out _ _ S1 (fun _ => ?_)
            clear hK K
            go_simp
            refine wpAnyH_ready (rs := [0]) (by kernel_rfl) (by simp) (AllReadyH.cons rfl (fun K hK => ?_) AllReadyH.nil)
            go_simp
            refine hK.out _ _ S1 (fun _ => ?_)
            clear hK K
            go_simp
            refine wpAnyH_ready (rs := [6]) (by kernel_rfl) (by simp) (AllReadyH.cons rfl (fun K hK => ?_) AllReadyH.nil)
            refine step_append_run 46 (.tmp 28) (.tmp 33) (by rfl) (by rfl) _ _ (by rfl) (by rfl) hrun ?_
            refine hK.out _ _ S2 (fun _ => ?_)
            clear hK K
            go_simp
            refine wpAnyH_ready (rs := [7]) (by kernel_rfl) (by simp) (AllReadyH.cons rfl (fun K hK => ?_) AllReadyH.nil)
            go_simp
            refine hK.out _ _ S3 (fun _ => ?_)
            clear hK K
            go_simp
            refine wpAnyH_done (by kernel_rfl) ?_ _
            gi_wp2
            exact HFIN.out
      · have hless : Op.bytesLess xk to = false := by rw [bytesLess_eq]; simpa using hk
        gi_wp2_with fail
        gi_region_with_o (fail)
        all_goals
          have HF := Hid.mk (HSTOP.out hto hk)
          clear HMORE HSTOP
          gi_wp2
          obtain ⟨g1, _, g2⟩ := HF.out
          exact ⟨g1, rfl, g2⟩
  case done =>
    rintro D ys W hDz hS hKI hK
    obtain ⟨ad, c, hcell, Hf⟩ := KI.leave hKI (Nat.le_trans hsz2.out hDz) hK
    have he : inRange fr to (itsT t) = ys.map Subtype.val := by
      obtain ⟨_, _, _, _, _, _, _, _, _, hall⟩ := hKI
      rw [hS] at hall
      rw [inRange_all hall, hS]
    rw [← he] at Hf hcell
    generalize (inRange fr to (itsT t)).length = LL at *
    gi_wp2
    refine ⟨by simp, .inl ⟨_, _, rfl, run_takeDeferred hK, ?_⟩⟩
    exact ⟨_, results_tmp rfl _ _ _, .slice ad LL c, rfl, Hf.out⟩
  case stop =>
    rintro D c pre W hDz hSp ⟨rfl, p, x, h1, h2, h3, h4⟩ hK
    obtain ⟨ad, c, hcell, Hf⟩ := KI.leave h4 (Nat.le_trans hsz2.out hDz) hK
    have he : inRange fr to (itsT t) = p := by
      rw [h1] at hSp
      obtain ⟨_, _, _, _, _, _, _, _, _, hall⟩ := h4
      exact inRange_cut HU.out hSp hall h2 h3
    rw [← he] at Hf hcell
    generalize (inRange fr to (itsT t)).length = LL at *
    gi_wp2
    refine ⟨by simp, .inl ⟨_, _, rfl, run_takeDeferred hK, ?_⟩⟩
    exact ⟨_, results_tmp rfl _ _ _, .slice ad LL c, rfl, Hf.out⟩
theorem keys_any {tb : Nat} (c1 : w.cell? ⟨tb, 1, none⟩ = some (ptrT t)) (hT : IsT w F ρ t) (hu : Up (itsT t)) (hl : (itsT t).length ≤ 100000) (fr to : List UInt8) :
    Calls Tryz.prog 20 #[Pp tb, Sv fr, Sv to] w fun e w' => ∃ v, e = .returned v ∧ OwnsR 9 1 w' v (CS ((inRange fr to (itsT t)).map Itm.key)) ∧ Kept [] w w' ∧ Fresh w v :=
  (callsIn_wide (n := 3)).1 (keys_in (F := fun b => F b ∧ b < w.heap.size) c1 (hT.monoS fun b hb hf => ⟨hf, hb⟩) hu (fun b hb => hb.2) hl fr to)
end
end Go.Proofs.YtgpbhlfdlkemjaaGreat
