import Derived.Test.YtgpbhlfdlkemjaaGreatQ22
/-
  tree's walk.
-/
namespace Go.Proofs.YtgpbhlfdlkemjaaGreat
open Go.RowKit
set_option linter.unusedVariables false

section
variable {w : World} {F : Nat → Prop} {ρ : Rho}
set_option maxRecDepth 100000 in
set_option maxHeartbeats 4000000 in
theorem tree_some (hB : Hid (Blank ρ w)) {ub : Nat} {vl : Value} {left : List Nat} (hubF : Hid (ub < w.heap.size ∧ ¬ F ub)) {k : Nat} (hk : Hid (k ≤ 1000)) (is : List Itm) (nin : List Nat) (cs : List Chg) (a : Option Addr) (m c : Nat) (hsz : Hid (Sized (mrg is cs))) (hll : Hid (left.length + nin.length ≤ 90000)) (hlen : Hid ((mrg is cs).length ≤ 50000))
    {nb : Nat} (HC : Calls Tryz.prog 78 #[Pp ub, Pp nb, .slice a m c] w fun e w' => RepPost (k := k) F ρ w ub vl left is nin cs e w') :
    Calls Tryz.prog 48 #[Pp ub, Pp nb, .slice a m c] w fun e w' => TreePost F ρ w ub vl left is nin cs e w' := by
  go_enter Tryz.func48, Tryz.ntmps48
  go_wp2_with fail
  refine HC.mono ?_
  rintro e w1 ⟨v, vr, dl, L, rfl, ho, hf, hU, kk, hN, hns, hwf, heq, hP⟩
  have HL : Hid (∃ (j : Nat) (L : List (Tr j)) (vr : Value) (dl : List Nat), Lev F ρ w ub vl left is nin cs w1 v L vr dl) := Hid.mk ⟨k, L, vr, dl, ⟨by
    have h1 := wf_len hwf
    rw [heq] at h1
    have := hlen.out
    have := hk.out
    omega, ho, hf, hU, kk, hN, hns, hwf, heq, hP⟩⟩
  clear ho hf hU kk hN hns hwf heq hP HC
  go_wp2_with fail
  go_loopw [7] (fun v wr => Hid (∃ (j : Nat) (L : List (Tr j)) (vr : Value) (dl : List Nat), Lev F ρ w ub vl left is nin cs wr v L vr dl)) (fun v _ => lenV v)
  case atStart => exact HL
  case round =>
    obtain ⟨j, L, vr, dl, HV⟩ := hrel.out
    obtain ⟨a7, c7, e7, h7, h8⟩ := HV.own.form
    rw [List.length_map] at e7 h7
    obtain ⟨N, hN⟩ : ∃ N, N = L.length := ⟨_, rfl⟩
    rw [← hN] at e7 h7
    subst e7
    have HVH := Hid.mk HV
    have hNH := Hid.mk hN
    have hlow : Hid (j + N ≤ 90000) := Hid.mk (by rw [hN]; exact HV.low)
    have hj : j ≤ 90000 := by have := hlow.out; omega
    have hN9 : N ≤ 90000 := by have := hlow.out; omega
    by_cases h2 : 2 ≤ N
    · obtain ⟨u, hu⟩ : ∃ u, L[0]? = some u := ⟨_, List.getElem?_eq_getElem (by omega)⟩
      obtain ⟨b, o, c', e, hcell⟩ := HV.own.reads.at 0 (adr u) (by rw [List.getElem?_map, hu]; rfl)
      injection e with e eN e2
      subst e e2
      clear eN
      rw [Nat.add_zero] at hcell
      have hst := HV.step hB.out hubF.out hsz.out hll.out hN h2 u hu rfl hcell
      have S1 : wr.drew.cell? ⟨b, o, none⟩ = some (Pp (adr u)) ∧ wr.drew.cell? ⟨adr u, 2, none⟩ = some (.int .i64 (j : Int)) := ⟨hcell, (HV.nodes u (List.mem_of_getElem? hu)).level⟩
      clear HV hu hN hcell
      generalize adr u = B at *
      clear HVH hNH hlow h7 h8
      have i1 : (0 : Int) < (N : Int) := by omega
      have i2 : 0 < N := by omega
      have i4 : (0 : Int) ≤ (N : Int) := by omega
      have i5 : (1 : Int) ≤ (N : Int) := by omega
      have i6 : (1 : Int) < (N : Int) := by omega
      clear h2
      have i3 : IntKind.i64.wrap ((j : Int) + 1) = (j : Int) + 1 := by rw [IntKind.wrap_i64]; omega
      go_wp2_with fail
      clear hj hN9
      go_region_held3 (fun w' => w'.cell? ⟨b, o, none⟩ = some (Pp B) ∧ w'.cell? ⟨B, 2, none⟩ = some (.int .i64 (j : Int))) (first | exact S1 | exact S5 | exact S6) (first | (go_at_call 80; refine hst.mono ?_; rintro e w5 ⟨v5, rfl, S5, h5⟩) | (go_at_call 79; refine h5.mono ?_; rintro e w6 ⟨v6, rfl, S6, hQ⟩))
      all_goals
        have HR : Hid (Hid (∃ (j : Nat) (L : List (Tr j)) (vr : Value) (dl : List Nat), Lev F ρ w ub vl left is nin cs w6 v6 L vr dl) ∧ lenV v6 < N) := Hid.mk (by
          obtain ⟨L', vr', dl', h1, h2⟩ := hQ
          refine ⟨Hid.mk ⟨_, L', vr', dl', h1⟩, ?_⟩
          obtain ⟨a8, c8, e8, _⟩ := h1.own.form
          rw [e8, List.length_map]
          exact h2)
        clear S1 S5 S6 hst h5 hQ
        go_wp2
        exact HR.out
    · by_cases h0 : N = 0
      · subst h0
        have HP : Hid (TreePost F ρ w ub vl left is nin cs (.returned (.pointer none)) wr) := Hid.mk (by
          have e0 : L = [] := List.eq_nil_of_length_eq_zero hN.symm
          subst e0
          refine ⟨vr, dl, none, rfl, trivial, HV.eq, HV.names, HV.upd, HV.kept, HV.new, fun n e => by simp at e⟩)
        clear HV hN HVH hNH
        go_wp2
        go_ret
        exact HP.out
      · obtain rfl : N = 1 := by omega
        obtain ⟨u, rfl⟩ : ∃ u, L = [u] := by
          cases L with
          | nil => simp at hN
          | cons u r => cases r with
            | nil => exact ⟨u, rfl⟩
            | cons _ _ => simp at hN
        obtain ⟨b, o, c', e, hcell⟩ := HV.own.reads.at 0 (adr u) rfl
        injection e with e eN e2
        subst e e2
        clear eN
        rw [Nat.add_zero] at hcell
        have hub5 : Hid (∀ x ∈ uf ub vr, ¬ Fw F w [vr] x) := Hid.mk fun x hx hF => by
          rcases mem_uf.1 hx with h1 | h1
          · subst h1
            rcases hF.1 with h1 | h1
            · exact hubF.out.2 h1
            · have := hubF.out.1; omega
          · exact hF.2 vr (by simp) h1
        have har := asRoot_any (w := wr) (F := Fw F w [vr]) (ρ := ρ) (Hid.mk (hB.out.kept HV.kept)) HV.upd hub5 u (Hid.mk (HV.nodes u (by simp))) (Hid.mk (HV.wf u (by simp))) (Hid.mk (by
          have h3 := HV.names.length_eq
          have h4 := hll.out
          simp at h3
          rw [List.length_append]
          omega))
        clear HV hN hNH h2 h0 hN9 h7 h8 hlow hj
        go_wp2_with fail
        refine har.mono ?_
        rintro e w9 ⟨vl9, d9, j9, r, rfl, hU9, k9, hN9', hr, hwr, htr, hir, hpr, hge⟩
        have HV := HVH.out
        have HP : Hid (TreePost F ρ w ub vl left is nin cs (.returned (Pp (adr r))) w9) := Hid.mk ⟨vl9, dl ++ d9, some ⟨j9, r⟩, rfl, ⟨hr.mono fun b hb => ⟨by
            rcases hb.1 with h1 | h1
            · exact h1.1
            · exact .inr (Nat.le_trans HV.kept.size h1), hb.2⟩, hwr, htr⟩, by
            show its r = _
            rw [hir, ← HV.eq]
            simp, by
            refine HV.names.trans ?_
            show _root_.List.Perm _ (nms ρ r ++ (dl ++ d9))
            simp only [List.flatMap_cons, List.flatMap_nil, List.append_nil]
            refine (hpr.append_right dl).trans ?_
            rw [List.append_assoc]
            exact List.Perm.append_left _ List.perm_append_comm, by rw [← List.append_assoc]; exact hU9, HV.kept.uf k9 HV.new, HV.new.trans hN9' HV.kept.size, fun n e => by
            injection e with e
            subst e
            exact Nat.le_trans HV.kept.size hge⟩
        clear HV HVH hU9 k9 hN9' hr hwr htr hir hpr hge har
        go_wp2
        go_ret
        exact HP.out
set_option maxRecDepth 100000 in
set_option maxHeartbeats 4000000 in
theorem tree_none (hB : Hid (Blank ρ w)) {ub : Nat} {vl : Value} {left : List Nat} (hubF : Hid (ub < w.heap.size ∧ ¬ F ub)) {k : Nat} (hk : Hid (k ≤ 1000)) (is : List Itm) (nin : List Nat) (cs : List Chg) (a : Option Addr) (m c : Nat) (hsz : Hid (Sized (mrg is cs))) (hll : Hid (left.length + nin.length ≤ 90000)) (hlen : Hid ((mrg is cs).length ≤ 50000))
    (HC : Calls Tryz.prog 78 #[Pp ub, Pp w.heap.size, .slice a m c] (w.alloc (.cells #[.int .i64 0, .int .u64 0, .int .i64 0, .slice none 0 0, .slice none 0 0] 114)) fun e w' => RepPost (k := k) F ρ w ub vl left is nin cs e w') :
    Calls Tryz.prog 48 #[Pp ub, .pointer none, .slice a m c] w fun e w' => TreePost F ρ w ub vl left is nin cs e w' := by
  go_enter Tryz.func48, Tryz.ntmps48
  go_wp2_with fail
  refine HC.mono ?_
  rintro e w1 ⟨v, vr, dl, L, rfl, ho, hf, hU, kk, hN, hns, hwf, heq, hP⟩
  have HL : Hid (∃ (j : Nat) (L : List (Tr j)) (vr : Value) (dl : List Nat), Lev F ρ w ub vl left is nin cs w1 v L vr dl) := Hid.mk ⟨k, L, vr, dl, ⟨by
    have h1 := wf_len hwf
    rw [heq] at h1
    have := hlen.out
    have := hk.out
    omega, ho, hf, hU, kk, hN, hns, hwf, heq, hP⟩⟩
  clear ho hf hU kk hN hns hwf heq hP HC
  go_wp2_with fail
  go_loopw [7] (fun v wr => Hid (∃ (j : Nat) (L : List (Tr j)) (vr : Value) (dl : List Nat), Lev F ρ w ub vl left is nin cs wr v L vr dl)) (fun v _ => lenV v)
  case atStart => exact HL
  case round =>
    obtain ⟨j, L, vr, dl, HV⟩ := hrel.out
    obtain ⟨a7, c7, e7, h7, h8⟩ := HV.own.form
    rw [List.length_map] at e7 h7
    obtain ⟨N, hN⟩ : ∃ N, N = L.length := ⟨_, rfl⟩
    rw [← hN] at e7 h7
    subst e7
    have HVH := Hid.mk HV
    have hNH := Hid.mk hN
    have hlow : Hid (j + N ≤ 90000) := Hid.mk (by rw [hN]; exact HV.low)
    have hj : j ≤ 90000 := by have := hlow.out; omega
    have hN9 : N ≤ 90000 := by have := hlow.out; omega
    by_cases h2 : 2 ≤ N
    · obtain ⟨u, hu⟩ : ∃ u, L[0]? = some u := ⟨_, List.getElem?_eq_getElem (by omega)⟩
      obtain ⟨b, o, c', e, hcell⟩ := HV.own.reads.at 0 (adr u) (by rw [List.getElem?_map, hu]; rfl)
      injection e with e eN e2
      subst e e2
      clear eN
      rw [Nat.add_zero] at hcell
      have hst := HV.step hB.out hubF.out hsz.out hll.out hN h2 u hu rfl hcell
      have S1 : wr.drew.cell? ⟨b, o, none⟩ = some (Pp (adr u)) ∧ wr.drew.cell? ⟨adr u, 2, none⟩ = some (.int .i64 (j : Int)) := ⟨hcell, (HV.nodes u (List.mem_of_getElem? hu)).level⟩
      clear HV hu hN hcell
      generalize adr u = B at *
      clear HVH hNH hlow h7 h8
      have i1 : (0 : Int) < (N : Int) := by omega
      have i2 : 0 < N := by omega
      have i4 : (0 : Int) ≤ (N : Int) := by omega
      have i5 : (1 : Int) ≤ (N : Int) := by omega
      have i6 : (1 : Int) < (N : Int) := by omega
      clear h2
      have i3 : IntKind.i64.wrap ((j : Int) + 1) = (j : Int) + 1 := by rw [IntKind.wrap_i64]; omega
      go_wp2_with fail
      clear hj hN9
      go_region_held3 (fun w' => w'.cell? ⟨b, o, none⟩ = some (Pp B) ∧ w'.cell? ⟨B, 2, none⟩ = some (.int .i64 (j : Int))) (first | exact S1 | exact S5 | exact S6) (first | (go_at_call 80; refine hst.mono ?_; rintro e w5 ⟨v5, rfl, S5, h5⟩) | (go_at_call 79; refine h5.mono ?_; rintro e w6 ⟨v6, rfl, S6, hQ⟩))
      all_goals
        have HR : Hid (Hid (∃ (j : Nat) (L : List (Tr j)) (vr : Value) (dl : List Nat), Lev F ρ w ub vl left is nin cs w6 v6 L vr dl) ∧ lenV v6 < N) := Hid.mk (by
          obtain ⟨L', vr', dl', h1, h2⟩ := hQ
          refine ⟨Hid.mk ⟨_, L', vr', dl', h1⟩, ?_⟩
          obtain ⟨a8, c8, e8, _⟩ := h1.own.form
          rw [e8, List.length_map]
          exact h2)
        clear S1 S5 S6 hst h5 hQ
        go_wp2
        exact HR.out
    · by_cases h0 : N = 0
      · subst h0
        have HP : Hid (TreePost F ρ w ub vl left is nin cs (.returned (.pointer none)) wr) := Hid.mk (by
          have e0 : L = [] := List.eq_nil_of_length_eq_zero hN.symm
          subst e0
          refine ⟨vr, dl, none, rfl, trivial, HV.eq, HV.names, HV.upd, HV.kept, HV.new, fun n e => by simp at e⟩)
        clear HV hN HVH hNH
        go_wp2
        go_ret
        exact HP.out
      · obtain rfl : N = 1 := by omega
        obtain ⟨u, rfl⟩ : ∃ u, L = [u] := by
          cases L with
          | nil => simp at hN
          | cons u r => cases r with
            | nil => exact ⟨u, rfl⟩
            | cons _ _ => simp at hN
        obtain ⟨b, o, c', e, hcell⟩ := HV.own.reads.at 0 (adr u) rfl
        injection e with e eN e2
        subst e e2
        clear eN
        rw [Nat.add_zero] at hcell
        have hub5 : Hid (∀ x ∈ uf ub vr, ¬ Fw F w [vr] x) := Hid.mk fun x hx hF => by
          rcases mem_uf.1 hx with h1 | h1
          · subst h1
            rcases hF.1 with h1 | h1
            · exact hubF.out.2 h1
            · have := hubF.out.1; omega
          · exact hF.2 vr (by simp) h1
        have har := asRoot_any (w := wr) (F := Fw F w [vr]) (ρ := ρ) (Hid.mk (hB.out.kept HV.kept)) HV.upd hub5 u (Hid.mk (HV.nodes u (by simp))) (Hid.mk (HV.wf u (by simp))) (Hid.mk (by
          have h3 := HV.names.length_eq
          have h4 := hll.out
          simp at h3
          rw [List.length_append]
          omega))
        clear HV hN hNH h2 h0 hN9 h7 h8 hlow hj
        go_wp2_with fail
        refine har.mono ?_
        rintro e w9 ⟨vl9, d9, j9, r, rfl, hU9, k9, hN9', hr, hwr, htr, hir, hpr, hge⟩
        have HV := HVH.out
        have HP : Hid (TreePost F ρ w ub vl left is nin cs (.returned (Pp (adr r))) w9) := Hid.mk ⟨vl9, dl ++ d9, some ⟨j9, r⟩, rfl, ⟨hr.mono fun b hb => ⟨by
            rcases hb.1 with h1 | h1
            · exact h1.1
            · exact .inr (Nat.le_trans HV.kept.size h1), hb.2⟩, hwr, htr⟩, by
            show its r = _
            rw [hir, ← HV.eq]
            simp, by
            refine HV.names.trans ?_
            show _root_.List.Perm _ (nms ρ r ++ (dl ++ d9))
            simp only [List.flatMap_cons, List.flatMap_nil, List.append_nil]
            refine (hpr.append_right dl).trans ?_
            rw [List.append_assoc]
            exact List.Perm.append_left _ List.perm_append_comm, by rw [← List.append_assoc]; exact hU9, HV.kept.uf k9 HV.new, HV.new.trans hN9' HV.kept.size, fun n e => by
            injection e with e
            subst e
            exact Nat.le_trans HV.kept.size hge⟩
        clear HV HVH hU9 k9 hN9' hr hwr htr hir hpr hge har
        go_wp2
        go_ret
        exact HP.out
end
end Go.Proofs.YtgpbhlfdlkemjaaGreat
/-
  tree, whole.
-/
namespace Go.Proofs.YtgpbhlfdlkemjaaGreat
open Go.RowKit
set_option linter.unusedVariables false

section
variable {w : World} {F : Nat → Prop} {ρ : Rho}
theorem tree_any (hB : Blank ρ w) {ub : Nat} {vl : Value} {left : List Nat} (hU : IsU w ub vl left) (hFu : ∀ x ∈ uf ub vl, ¬ F x) (t : AT) (hT : IsT w F ρ t) (hk : ∀ n, t = some n → n.1 ≤ 1000) (hUp : Up (itsT t)) (hSz : Sized (itsT t)) (cs : List Chg) (hne : cs ≠ []) (a : Option Addr) (m c : Nat) (hm : m = cs.length) (hC : HoldsC w (.slice a m c) cs) (hFc : ∀ g, (Value.slice a m c).ownBlock = some g → g ∉ uf ub vl) (hcs : ChsOk w F ρ cs) (hlen : (itsT t).length + m ≤ 50000) (hll : left.length + (nmsT ρ t).length ≤ 90000) :
    Calls Tryz.prog 48 #[Pp ub, ptrT t, .slice a m c] w fun e w' => TreePost F ρ w ub vl left (itsT t) (nmsT ρ t) cs e w' := by
  have hubF : ub < w.heap.size ∧ ¬ F ub := ⟨hU.lt, hFu ub (mem_uf.2 (.inl rfl))⟩
  have hlm : (mrg (itsT t) cs).length ≤ 50000 := by have := len_mrg (itsT t) cs; omega
  match t, hT, hk, hUp, hSz, hlen, hll, hlm with
  | some n, hT, hk, hUp, hSz, hlen, hll, hlm =>
    exact tree_some (Hid.mk hB) (Hid.mk hubF) (Hid.mk (hk n rfl)) _ _ cs a m c (Hid.mk (sized_mrg hcs hSz)) (Hid.mk hll) (Hid.mk hlm) (rep_all n.1 (hk n rfl) w F ρ ub vl left n.2 cs a m c hB hU hFu hT.1 hT.2.1.e (fun _ => hT.2.1) hUp hSz hm hC hFc hcs hlen hll)
  | none, hT, hk, hUp, hSz, hlen, hll, hlm =>
    refine tree_none (k := 0) (Hid.mk hB) (Hid.mk hubF) (Hid.mk (by omega)) [] [] cs a m c (Hid.mk (sized_mrg hcs hSz)) (Hid.mk hll) (Hid.mk hlm) ?_
    have ka : Kept [] w (w.alloc (.cells #[.int .i64 0, .int .u64 0, .int .i64 0, .slice none 0 0, .slice none 0 0] 114)) := (Kept.refl [] w).alloc _
    have hz : ρ w.heap.size = (0, 0) := hB _ (Nat.le_refl _)
    have hFu2 : ∀ x ∈ uf ub vl, ¬ ((F x ∧ x < w.heap.size) ∨ x = w.heap.size) := fun x hx h => by
      rcases h with h | h
      · exact hFu x hx h.1
      · rcases mem_uf.1 hx with h1 | h1
        · omega
        · have := hU.own.lt h1; omega
    have hN : IsN (w.alloc (.cells #[.int .i64 0, .int .u64 0, .int .i64 0, .slice none 0 0, .slice none 0 0] 114)) (fun b => (F b ∧ b < w.heap.size) ∨ b = w.heap.size) ρ (k := 0) (w.heap.size, []) := ⟨IsB.new (w := w) (lv := 0) hz (Kept.refl [] _) (by simp) (ReadsP.nil _) (ReadsP.nil _) (.inr rfl) (by simp) (by simp), fun i hi => by simp at hi⟩
    have hcs2 : ChsOk (w.alloc (.cells #[.int .i64 0, .int .u64 0, .int .i64 0, .slice none 0 0, .slice none 0 0] 114)) (fun b => (F b ∧ b < w.heap.size) ∨ b = w.heap.size) ρ cs := (hcs.monoS (F' := fun b => (F b ∧ b < w.heap.size) ∨ b = w.heap.size) fun b hb hf => .inl ⟨hf, hb⟩).kept ka (by simp)
    have hnn : nms ρ (k := 0) (w.heap.size, []) = [] := by
      show ([] : List Itm).flatMap _ ++ pn ρ w.heap.size = []
      rw [pn_blank hz]
      rfl
    refine (rep_all 0 (by omega) _ _ ρ ub vl left (w.heap.size, []) cs a m c (hB.kept ka) (hU.kept ka (by simp) (by simp)) hFu2 hN (by simp [WfE, fil]) (fun e => absurd e hne) hUp hSz hm (hC.kept ka (by simp)) hFc hcs2 hlen (by rw [hnn]; exact hll)).mono ?_
    rintro e w' ⟨v, vl', dl, ns, rfl, ho, hf, hU', k', hN', hns, hwf, heq, hP⟩
    refine ⟨v, vl', dl, ns, rfl, ho, fun g hg => Nat.le_trans ka.size (hf g hg), hU', (ka.mono (by simp)).trans k' (fun b hb => .inl hb), fun g hg => ?_, fun x hx => (hns x hx).mono fun b hb => ⟨?_, hb.2⟩, hwf, heq, by rw [hnn] at hP; exact hP⟩
    · rcases hN' g hg with h | h
      · exact .inl h
      · exact .inr (Nat.le_trans ka.size h)
    · rcases hb.1 with h | h
      · rcases h with h | h
        · exact .inl h.1
        · right; omega
      · exact .inr (Nat.le_trans ka.size h)
end
end Go.Proofs.YtgpbhlfdlkemjaaGreat
/-
  blocks: how many blocks the texts take that aren't put yet.
-/
namespace Go.Proofs.YtgpbhlfdlkemjaaGreat
open Go.RowKit
set_option linter.unusedVariables false

/-- How many blocks an item's text takes, if it isn't put yet. -/
def ib (ρ : Rho) (i : Itm) : Nat := if lng i = true ∧ (ρ i.ad).1 = 0 then (i.val.length + 237) / 238 else 0
/-- How many blocks the texts of a node take that aren't put yet. -/
def bl (ρ : Rho) : {k : Nat} → Tr k → Nat
  | 0, n => if (ρ n.1).1 = 0 then 1 + (n.2.map (ib ρ)).sum else 0
  | k + 1, n => if (ρ n.1).1 = 0 then 1 + (n.2.map (bl ρ (k := k))).sum else 0
theorem tsum_le {α : Type} (f : α → Nat) (l : List α) (j : Nat) : ((l.take j).map f).sum ≤ (l.map f).sum := by
  conv => rhs; rw [← List.take_append_drop j l, List.map_append, List.sum_append]
  omega
theorem tsum_succ {α : Type} (f : α → Nat) (l : List α) (j : Nat) (x : α) (hx : l[j]? = some x) : ((l.take (j + 1)).map f).sum = ((l.take j).map f).sum + f x := by
  rw [tsnoc hx, List.map_append, List.sum_append]
  simp
section
variable {w : World} {F : Nat → Prop} {ρ : Rho}
set_option maxRecDepth 100000 in
set_option maxHeartbeats 1000000 in
theorem blk_nil (w : World) : Calls Tryz.prog 49 #[.pointer none] w fun e w' => e = .returned (.int .i64 0) ∧ Kept [] w w' := by
  go_enter Tryz.func49, Tryz.ntmps49
  go_wp2
  go_ret
  exact ⟨rfl, Kept.refl [] w⟩
set_option maxRecDepth 100000 in
set_option maxHeartbeats 1000000 in
theorem blocks_put {nb nm sm : Nat} (c0 : w.cell? ⟨nb, 0, none⟩ = some (.int .i64 (nm : Int))) (c1 : w.cell? ⟨nb, 1, none⟩ = some (.int .u64 (sm : Int))) (h : nm ≠ 0) : Calls Tryz.prog 49 #[Pp nb] w fun e w' => e = .returned (.int .i64 0) ∧ Kept [] w w' := by
  have hp := fun W => isPut_any nm sm W
  have hd : decide (nm ≠ 0) = true := by simpa using h
  rw [hd] at hp
  clear hd h
  go_enter Tryz.func49, Tryz.ntmps49
  go_wp2_with fail
  refine (hp _).mono ?_
  rintro e w1 ⟨rfl, k1⟩
  go_wp2
  go_ret
  exact ⟨rfl, k1⟩
set_option maxRecDepth 100000 in
set_option maxHeartbeats 4000000 in
theorem blocks_br {k : Nat} {n : Tr (k + 1)} (hN : IsN w F ρ n) (hl : n.2.length ≤ 100000) (h0 : (ρ n.1).1 = 0) (hb : Hid (bl ρ n ≤ 1000000)) (HR : Hid (∀ u ∈ n.2, ∀ W, Kept [] w W → Calls Tryz.prog 49 #[Pp (adr u)] W fun e w' => e = .returned (.int .i64 (bl ρ u : Int)) ∧ Kept [] W w')) : Calls Tryz.prog 49 #[Pp n.1] w fun e w' => e = .returned (.int .i64 (bl ρ n : Int)) ∧ Kept [] w w' := by
  obtain ⟨aI, cI, aU, cU, c0, c1, -, c3, c4, r3, r4, -⟩ := hN.isB.raw
  rw [show adr n = n.1 from rfl] at c0 c1 c3 c4
  have hp := fun W => isPut_any (ρ n.1).1 (ρ n.1).2 W
  have hd : decide ((ρ n.1).1 ≠ 0) = false := by simpa using h0
  rw [hd] at hp
  have hbl : Hid (bl ρ n = 1 + (n.2.map (bl ρ)).sum) := Hid.mk (by show (if (ρ n.1).1 = 0 then _ else _) = _; rw [if_pos h0])
  have hui : (ia n).length = 0 := rfl
  have huu : (ua n).length = n.2.length := by show (n.2.map adr).length = _; rw [List.length_map]
  have hua : Hid (ua n = n.2.map adr) := Hid.mk rfl
  rw [hui] at c3
  rw [huu] at c4 r4
  rw [hua.out] at r4
  have hlt0 : Hid (n.1 < w.heap.size) := Hid.mk hN.lt
  have HK : Hid (∀ W i, Kept [] w W → W.cell? ⟨n.1, i, none⟩ = w.cell? ⟨n.1, i, none⟩) := Hid.mk fun W i kW => kW.cell hlt0.out (by simp)
  have HK3 : Hid (∀ W, Kept [] w W → W.cell? ⟨n.1, 3, none⟩ = some (.slice aI 0 cI)) := Hid.mk fun W kW => by rw [HK.out W 3 kW]; exact c3
  have HK4 : Hid (∀ W, Kept [] w W → W.cell? ⟨n.1, 4, none⟩ = some (.slice aU n.2.length cU)) := Hid.mk fun W kW => by rw [HK.out W 4 kW]; exact c4
  have HRD : Hid (∀ W, Kept [] w W → ReadsP W (.slice aU n.2.length cU) (n.2.map adr)) := Hid.mk fun W kW => r4.kept kW (by simp)
  obtain ⟨S, hS⟩ : ∃ S : Nat → Nat, Hid (∀ j, S j = 1 + ((n.2.take j).map (bl ρ)).sum) := ⟨fun j => 1 + ((n.2.take j).map (bl ρ)).sum, Hid.mk fun _ => rfl⟩
  have HS0 : Hid (S 0 = 1) := Hid.mk (by rw [hS.out]; rfl)
  have HSb : Hid (∀ j, S j ≤ 1000000) := Hid.mk fun j => by
    rw [hS.out]
    have h1 := tsum_le (bl ρ) n.2 j
    have h2 := hb.out
    rw [hbl.out] at h2
    omega
  have HSs : Hid (∀ j x, n.2[j]? = some x → S (j + 1) = S j + bl ρ x) := Hid.mk fun j x hx => by rw [hS.out, hS.out, tsum_succ (bl ρ) n.2 j x hx]; omega
  have HSe : Hid (S n.2.length = bl ρ n) := Hid.mk (by rw [hS.out, List.take_length, hbl.out])
  obtain ⟨N, HN⟩ : ∃ N, Hid (n.2.length = N) := ⟨_, rfl⟩
  rw [HN.out] at hl HK4 HRD HSe
  generalize (ρ n.1).1 = r1 at *
  generalize (ρ n.1).2 = r2 at *
  obtain ⟨A, HA⟩ : ∃ A, Hid (n.1 = A) := ⟨_, rfl⟩
  rw [HA.out] at c0 c1 HK3 HK4 ⊢
  clear hN HK c3 c4 r3 r4 hui huu hua hd h0
  go_enter Tryz.func49, Tryz.ntmps49
  go_wp2_with fail
  refine (hp _).mono ?_
  rintro e w1 ⟨rfl, k1⟩
  have d4 := HK4.out w1 k1
  clear c0 c1 hp
  go_wp2_with fail
  go_loopw [3, 22] (fun s i wr => ∃ j : Nat, i = .int .i64 (j : Int) ∧ j ≤ N ∧ s = .int .i64 (S j : Int) ∧ Kept [] w wr) (fun _ i _ => N - (intOf i).toNat)
  case atStart => exact ⟨0, rfl, by omega, by rw [HS0.out]; rfl, k1⟩
  case round =>
    obtain ⟨j, rfl, hj, rfl, kk⟩ := hrel
    have hSj := HSb.out j
    by_cases hlt : j < N
    · obtain ⟨u, hu⟩ : ∃ u, n.2[j]? = some u := ⟨_, List.getElem?_eq_getElem (by have := HN.out; omega)⟩
      have hS1 : S j + bl ρ u ≤ 1000000 := by rw [← HSs.out j u hu]; exact HSb.out _
      obtain ⟨b, o, c', e, hcell⟩ := (HRD.out wr kk).at j (adr u) (by rw [List.getElem?_map, hu]; rfl)
      rw [List.length_map, HN.out] at e
      injection e with e eN e2
      subst e e2
      clear eN
      have hcall := HR.out u (List.mem_of_getElem? hu) wr kk
      have HKW : Hid (∀ W, Kept [] wr W → Kept [] w W) := Hid.mk fun W kW => kk.trans kW (by simp)
      have HNx := Hid.mk (HSs.out j u hu)
      clear hu
      generalize adr u = U at *
      generalize bl ρ u = B at *
      go_wp2_with fail
      refine hcall.mono ?_
      rintro e w2 ⟨rfl, k2⟩
      have HK2 := Hid.mk (HKW.out w2 k2)
      clear hcall HKW k2 d4
      go_wp2
      go_roundw
      case rel => exact ⟨j + 1, by go_num, by omega, by rw [HNx.out]; go_num, HK2.out⟩
      case measure => simp [intOf]; omega
    · obtain rfl : j = N := by omega
      have d3 := HK3.out wr kk
      go_wp2_with fail
      go_loopw [3, 36] (fun s i w' => s = .int .i64 (S j : Int) ∧ i = .int .i64 0 ∧ wr = w') (fun _ _ _ => 0)
      case atStart => exact ⟨rfl, rfl, rfl⟩
      case round =>
        obtain ⟨rfl, rfl, rfl⟩ := hrel
        go_wp2
        go_ret
        rw [← HSe.out]
        exact ⟨rfl, kk⟩
set_option maxRecDepth 100000 in
set_option maxHeartbeats 4000000 in
theorem blocks_lf {n : Tr 0} (hN : IsN w F ρ n) (hl : n.2.length ≤ 100000) (hsz : Hid (Sized n.2)) (h0 : (ρ n.1).1 = 0) (hb : Hid (bl ρ n ≤ 1000000)) : Calls Tryz.prog 49 #[Pp n.1] w fun e w' => e = .returned (.int .i64 (bl ρ n : Int)) ∧ Kept [] w w' := by
  obtain ⟨aI, cI, aU, cU, c0, c1, -, c3, c4, r3, r4, -⟩ := hN.isB.raw
  rw [show adr n = n.1 from rfl] at c0 c1 c3 c4
  have hp := fun W => isPut_any (ρ n.1).1 (ρ n.1).2 W
  have hd : decide ((ρ n.1).1 ≠ 0) = false := by simpa using h0
  rw [hd] at hp
  have hbl : Hid (bl ρ n = 1 + (n.2.map (ib ρ)).sum) := Hid.mk (by show (if (ρ n.1).1 = 0 then _ else _) = _; rw [if_pos h0])
  have hui : (ua n).length = 0 := rfl
  have huu : (ia n).length = n.2.length := by show (n.2.map Itm.ad).length = _; rw [List.length_map]
  have hua : Hid (ia n = n.2.map Itm.ad) := Hid.mk rfl
  rw [hui] at c4
  rw [huu] at c3 r3
  rw [hua.out] at r3
  have hlt0 : Hid (n.1 < w.heap.size) := Hid.mk hN.lt
  have HI := Hid.mk hN.2
  have HK : Hid (∀ W i, Kept [] w W → W.cell? ⟨n.1, i, none⟩ = w.cell? ⟨n.1, i, none⟩) := Hid.mk fun W i kW => kW.cell hlt0.out (by simp)
  have HK3 : Hid (∀ W, Kept [] w W → W.cell? ⟨n.1, 3, none⟩ = some (.slice aI n.2.length cI)) := Hid.mk fun W kW => by rw [HK.out W 3 kW]; exact c3
  have HK4 : Hid (∀ W, Kept [] w W → W.cell? ⟨n.1, 4, none⟩ = some (.slice aU 0 cU)) := Hid.mk fun W kW => by rw [HK.out W 4 kW]; exact c4
  have HRD : Hid (∀ W, Kept [] w W → ReadsP W (.slice aI n.2.length cI) (n.2.map Itm.ad)) := Hid.mk fun W kW => r3.kept kW (by simp)
  obtain ⟨S, hS⟩ : ∃ S : Nat → Nat, Hid (∀ j, S j = 1 + ((n.2.take j).map (ib ρ)).sum) := ⟨fun j => 1 + ((n.2.take j).map (ib ρ)).sum, Hid.mk fun _ => rfl⟩
  have HS0 : Hid (S 0 = 1) := Hid.mk (by rw [hS.out]; rfl)
  have HSb : Hid (∀ j, S j ≤ 1000000) := Hid.mk fun j => by
    rw [hS.out]
    have h1 := tsum_le (ib ρ) n.2 j
    have h2 := hb.out
    rw [hbl.out] at h2
    omega
  have HSs : Hid (∀ j x, n.2[j]? = some x → S (j + 1) = S j + ib ρ x) := Hid.mk fun j x hx => by rw [hS.out, hS.out, tsum_succ (ib ρ) n.2 j x hx]; omega
  have HSe : Hid (S n.2.length = bl ρ n) := Hid.mk (by rw [hS.out, List.take_length, hbl.out])
  obtain ⟨N, HN⟩ : ∃ N, Hid (n.2.length = N) := ⟨_, rfl⟩
  rw [HN.out] at hl HK3 HRD HSe
  generalize (ρ n.1).1 = r1 at *
  generalize (ρ n.1).2 = r2 at *
  obtain ⟨A, HA⟩ : ∃ A, Hid (n.1 = A) := ⟨_, rfl⟩
  rw [HA.out] at c0 c1 HK3 HK4 ⊢
  clear hN HK c3 c4 r3 r4 hui huu hua hd h0
  go_enter Tryz.func49, Tryz.ntmps49
  go_wp2_with fail
  refine (hp _).mono ?_
  rintro e w1 ⟨rfl, k1⟩
  have d4 := HK4.out w1 k1
  clear c0 c1 hp
  go_wp2_with fail
  go_loopw [3, 22] (fun s i w' => s = .int .i64 1 ∧ i = .int .i64 0 ∧ w1 = w') (fun _ _ _ => 0)
  case atStart => exact ⟨rfl, rfl, rfl⟩
  case round =>
    obtain ⟨rfl, rfl, rfl⟩ := hrel
    have d3 := HK3.out w1 k1
    clear d4
    go_wp2_with fail
    go_loopw [3, 36] (fun s i wr => ∃ j : Nat, i = .int .i64 (j : Int) ∧ j ≤ N ∧ s = .int .i64 (S j : Int) ∧ Kept [] w wr) (fun _ i _ => N - (intOf i).toNat)
    case atStart => exact ⟨0, rfl, by omega, by rw [HS0.out]; rfl, k1⟩
    case round =>
      obtain ⟨j, rfl, hj, rfl, kk⟩ := hrel
      have hSj := HSb.out j
      by_cases hlt : j < N
      · obtain ⟨x, hx⟩ : ∃ x, n.2[j]? = some x := ⟨_, List.getElem?_eq_getElem (by have := HN.out; omega)⟩
        obtain ⟨b, o, c', e, hcell⟩ := (HRD.out wr kk).at j x.ad (by rw [List.getElem?_map, hx]; rfl)
        rw [List.length_map, HN.out] at e
        injection e with e eN e2
        subst e e2
        clear eN
        have hm := List.mem_of_getElem? hx
        have hIx := (HI.out x hm).kept kk (by simp)
        have hlong := item_isLong hIx (by have := (hsz.out x hm).2.1; omega) (by have := (hsz.out x hm).2.2; omega)
        have hv := (hsz.out x hm).2.2
        have HCL : Hid (∀ W, Kept [] wr W → ∃ a c, W.cell? ⟨x.ad, 0, none⟩ = some (.int .i64 ((ρ x.ad).1 : Int)) ∧ W.cell? ⟨x.ad, 1, none⟩ = some (.int .u64 ((ρ x.ad).2 : Int)) ∧ W.cell? ⟨x.ad, 3, none⟩ = some (.slice a x.val.length c)) := Hid.mk fun W kW => by
          obtain ⟨a, c, h1, h2, _, h4, _⟩ := (hIx.kept kW (by simp)).cells
          exact ⟨a, c, h1, h2, h4⟩
        have HKW : Hid (∀ W, Kept [] wr W → Kept [] w W) := Hid.mk fun W kW => kk.trans kW (by simp)
        have HNx := Hid.mk (HSs.out j x hx)
        have hib : Hid (ib ρ x = if lng x = true ∧ (ρ x.ad).1 = 0 then (x.val.length + 237) / 238 else 0) := Hid.mk rfl
        rw [hib.out] at HNx
        have hput := fun W => isPut_any (ρ x.ad).1 (ρ x.ad).2 W
        have hSb1 := HSb.out (j + 1)
        clear hx hm hIx d3
        generalize x.ad = U at *
        generalize lng x = lg at *
        generalize (ρ U).1 = r1' at *
        generalize (ρ U).2 = r2' at *
        generalize x.val.length = vn at *
        cases lg with
        | false =>
          rw [if_neg (by simp)] at HNx
          go_wp2_with fail
          refine hlong.mono ?_
          rintro e w2 ⟨rfl, q, rfl⟩
          have HK2 := Hid.mk (HKW.out _ ((Kept.refl [] wr).drewN q))
          clear hlong HKW HCL
          go_wp2
          go_roundw
          case rel => exact ⟨j + 1, by go_num, by omega, by rw [HNx.out]; rfl, HK2.out⟩
          case measure => simp [intOf]; omega
        | true =>
          by_cases hr : r1' = 0
          · subst hr
            rw [if_pos ⟨rfl, rfl⟩] at HNx
            rw [show decide ((0 : Nat) ≠ 0) = false from rfl] at hput
            have i1 : IntKind.i64.wrap ((vn : Int) + 238) = (vn : Int) + 238 := by rw [IntKind.wrap_i64]; omega
            have i2 : IntKind.i64.wrap ((vn : Int) + 238 - 1) = ((vn + 237 : Nat) : Int) := by rw [IntKind.wrap_i64]; omega
            have i3 : Int.tdiv ((vn + 237 : Nat) : Int) 238 = (((vn + 237) / 238 : Nat) : Int) := by rw [Int.tdiv_eq_ediv_of_nonneg (by omega)]; omega
            rw [HNx.out] at hSb1
            have i4 : (vn + 237) / 238 ≤ 100000 := by omega
            generalize (vn + 237) / 238 = Z at *
            generalize vn + 237 = Y at *
            go_wp2_with fail
            refine hlong.mono ?_
            rintro e w2 ⟨rfl, q, rfl⟩
            obtain ⟨a, c, d0, d1, d3⟩ := HCL.out _ ((Kept.refl [] wr).drewN q)
            clear hlong HCL
            go_wp2_with fail
            refine (hput _).mono ?_
            rintro e w2 ⟨rfl, k2⟩
            have HK2 := Hid.mk (HKW.out _ (((Kept.refl [] wr).drewN q).trans k2 (by simp)))
            have d3' : w2.cell? ⟨U, 3, none⟩ = some (.slice a vn c) := by rw [k2.cell (World.block_lt_of_cell? _ _ d3) (by simp)]; exact d3
            clear HKW k2 d0 d1 d3
            go_wp2
            go_roundw
            case rel => exact ⟨j + 1, by go_num, by omega, by rw [HNx.out]; go_num, HK2.out⟩
            case measure => simp [intOf]; omega
          · have hd : decide (r1' ≠ 0) = true := by simpa using hr
            rw [hd] at hput
            rw [if_neg (fun h => hr h.2)] at HNx
            clear hd hr
            go_wp2_with fail
            refine hlong.mono ?_
            rintro e w2 ⟨rfl, q, rfl⟩
            obtain ⟨a, c, d0, d1, d3⟩ := HCL.out _ ((Kept.refl [] wr).drewN q)
            clear hlong HCL
            go_wp2_with fail
            refine (hput _).mono ?_
            rintro e w2 ⟨rfl, k2⟩
            have HK2 := Hid.mk (HKW.out _ (((Kept.refl [] wr).drewN q).trans k2 (by simp)))
            clear HKW k2
            go_wp2
            go_roundw
            case rel => exact ⟨j + 1, by go_num, by omega, by rw [HNx.out]; rfl, HK2.out⟩
            case measure => simp [intOf]; omega
      · obtain rfl : j = N := by omega
        go_wp2
        go_ret
        rw [← HSe.out]
        exact ⟨rfl, kk⟩
theorem mem_sum_le {α : Type} (f : α → Nat) {l : List α} {x : α} (hx : x ∈ l) : f x ≤ (l.map f).sum := by
  obtain ⟨A, B, rfl⟩ := List.append_of_mem hx
  simp
  omega
theorem nblocks_any : {k : Nat} → (n : Tr k) → {w : World} → IsN w F ρ n → Wf n → Sized (its n) → bl ρ n ≤ 1000000 → Calls Tryz.prog 49 #[Pp (adr n)] w fun e w' => e = .returned (.int .i64 (bl ρ n : Int)) ∧ Kept [] w w'
  | 0, n, w, h, hw, hs, hb => by
    by_cases h0 : (ρ n.1).1 = 0
    · exact blocks_lf h (by have h1 := len_le_sum n.2; have h2 : (n.2.map isz).sum ≤ 236 := hw.2; omega) (Hid.mk hs) h0 (Hid.mk hb)
    · obtain ⟨c0, c1⟩ := h.ref
      have : bl ρ n = 0 := by show (if (ρ n.1).1 = 0 then _ else _) = _; rw [if_neg h0]
      rw [this]
      exact blocks_put c0 c1 h0
  | k + 1, n, w, h, hw, hs, hb => by
    by_cases h0 : (ρ n.1).1 = 0
    · refine blocks_br h (by have := hw.2.1; omega) h0 (Hid.mk hb) (Hid.mk fun u hu W kW => nblocks_any u ((h.2 u hu).kept kW (by simp)) (hw.2.2.1 u hu) (fun i hi => hs i (List.mem_flatMap.2 ⟨u, hu, hi⟩)) ?_)
      have h1 : bl ρ n = 1 + (n.2.map (bl ρ)).sum := by show (if (ρ n.1).1 = 0 then _ else _) = _; rw [if_pos h0]
      have := mem_sum_le (bl ρ) hu
      omega
    · obtain ⟨c0, c1⟩ := h.ref
      have : bl ρ n = 0 := by show (if (ρ n.1).1 = 0 then _ else _) = _; rw [if_neg h0]
      rw [this]
      exact blocks_put c0 c1 h0
end
end Go.Proofs.YtgpbhlfdlkemjaaGreat
