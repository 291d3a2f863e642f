/-
  A table: Touch.
-/
import Derived.Test.YtmihpgejaobdbaaTb
namespace Go.Proofs.Ytmihpgejaobdbaa
set_option maxRecDepth 100000
open Go.RowKit
set_option linter.unusedVariables false
/-- What Touch answers. -/
def tin (o : Option Ky) : Value := .tuple #[Sv (o.getD []), .bool o.isSome]
/-- How a touch ends. -/
def TouchEnd (w : World) (T : Nat) (m : Int) (L : List Ky) (F : List Nat) (k : Ky) (e : Ending) (w' : World) : Prop :=
  e = .returned (tin (touchT (cp m) L k).2) ∧ ∃ F', IsT w' T m (touchT (cp m) L k).1 F' ∧ Kept F w w' ∧ ∀ b ∈ F', b ∈ F ∨ w.heap.size ≤ b
section
variable {w : World} {T : Nat} {m : Int} {L : List Ky} {F : List Nat}
set_option maxHeartbeats 1000000 in
theorem touch10_nil (k : Ky) (w : World) : Calls Try.prog 10 #[.pointer none, Sv k] w fun e w' => e = .returned (tin none) ∧ w = w' := by
  go_enter Try.func10, Try.ntmps10
  go_wp2_with fail
  go_ret2
  exact ⟨rfl, rfl⟩
set_option maxHeartbeats 4000000 in
/-- .. of a key that is there. -/
theorem touch10_at {O M p : Nat} {A B : List (Ky × Nat)} {k : Ky} (hb : w.heap[T]? = some (.cells #[.int .i64 m, Pp O] 30 (0, 0))) (hO : IsO w O M (A ++ (k, p) :: B)) : Calls Try.prog 10 #[Pp T, Sv k] w fun e w' => e = .returned (tin none) ∧
    w'.heap[T]? = some (.cells #[.int .i64 m, Pp O] 30 (0, 0)) ∧ IsO w' O M (A ++ B ++ [(k, p)]) ∧ Kept (T :: footO O M (A ++ (k, p) :: B)) w w' := by
  have c1 : w.cell? ⟨T, 1, none⟩ = some (Pp O) := by simp [World.cell?, hb]
  have c2 := hO.places
  have hT := hO.apartT hb
  have hx : (k, p) ∈ A ++ (k, p) :: B := by simp
  have hg := hO.mp.look hx
  have sub : ∀ y ∈ A ++ B, y ∈ A ++ (k, p) :: B := fun y hy => by
    simp only [List.mem_append, List.mem_cons] at hy ⊢
    rcases hy with hy | hy
    · exact .inl hy
    · exact .inr (.inr hy)
  have hLn : ∀ m ∈ (O, 1) :: nds (A ++ (k, p) :: B), ∃ k t, Bk w m.1 k t ∧ m.2 + 2 < k := fun m hm => nd_bk hO hm
  have HU := Hid.mk (unlink_of hO.ring hLn hO.nodup hO.apart (hO.pk (k, p) hx).1)
  have HO := Hid.mk hO
  have HB := Hid.mk hb
  have HT := Hid.mk hT
  clear hO hb hLn
  obtain ⟨nO, nM⟩ := HO.out.mo
  have hnd := HO.out.nodup
  rw [List.map_append, List.map_cons, List.nodup_append, List.nodup_cons] at hnd
  have hp : p ∉ (A ++ B).map (·.2) := fun hm => by
    rw [List.map_append, List.mem_append] at hm
    rcases hm with hm | hm
    · exact hnd.2.2 p hm p (by simp) rfl
    · exact hnd.2.1.1 hm
  have hnd2 : ((A ++ B).map (·.2)).Nodup := by
    rw [List.map_append, List.nodup_append]
    exact ⟨hnd.1, hnd.2.1.2, fun a ha b hb => hnd.2.2 a ha b (List.mem_cons_of_mem _ hb)⟩
  have hap : O ∉ (A ++ B).map (·.2) := fun hm => by
    obtain ⟨y, hy, e⟩ := List.mem_map.1 hm
    exact HO.out.apart (List.mem_map.2 ⟨y, sub y hy, e⟩)
  have pm : (A ++ (k, p) :: B).Perm (A ++ B ++ [(k, p)]) := by
    rw [List.append_assoc]
    exact List.Perm.append_left A (List.perm_append_comm (l₁ := [(k, p)]) (l₂ := B))
  have H1 := Hid.mk hnd2
  have H2 := Hid.mk hap
  have H3 := Hid.mk hp
  have H4 := Hid.mk pm
  have H5 := Hid.mk sub
  clear hnd hnd2 hap hp pm sub
  go_enter Try.func10, Try.ntmps10
  go_wp2_with fail
  refine HU.out.mono ?_
  rintro e w1 ⟨rfl, k1, R1, z1, q1, s1⟩
  have hT1 : T ∉ O :: (A ++ (k, p) :: B).map (·.2) := fun hm => HT.out (by
    simp only [footO, List.mem_cons] at hm ⊢
    rcases hm with h | h
    · exact .inl h
    · exact .inr (.inr h))
  have hM1 : M ∉ O :: (A ++ (k, p) :: B).map (·.2) := by simp only [List.mem_cons, not_or]; exact ⟨nO, nM⟩
  have hb1 := k1.keeps HB.out hT1
  have m1 := HO.out.mp.kept k1 hM1
  have O1 := s1 _ _ _ HO.out.bk
  have P1 := (q1 O).trans HO.out.places
  have pk1 : ∀ y ∈ A ++ (k, p) :: B, Bk w1 y.2 3 51 ∧ w1.cell? ⟨y.2, 0, none⟩ = some (Sv y.1) := fun y hy => ⟨s1 _ _ _ (HO.out.pk y hy).1, (q1 _).trans (HO.out.pk y hy).2⟩
  have hLn : ∀ m ∈ (O, 1) :: nds (A ++ B), ∃ k t, Bk w1 m.1 k t ∧ m.2 + 2 < k := fun m hm => by
    rcases List.mem_cons.1 hm with rfl | hm
    · exact ⟨4, 53, O1, by simp⟩
    · obtain ⟨y, hy, rfl⟩ := List.mem_map.1 hm
      exact ⟨3, 51, (pk1 y (H5.out y hy)).1, by simp⟩
  have HL := Hid.mk (link_of O1 R1 hLn H1.out H2.out (pk1 (k, p) hx).1 H3.out)
  have HM1 := Hid.mk hM1
  have HT1 := Hid.mk hT1
  have HK1 := Hid.mk k1
  have HB1 := Hid.mk hb1
  have HMM := Hid.mk m1
  have HP1 := Hid.mk P1
  have HPK := Hid.mk pk1
  have HO1 := Hid.mk O1
  have d1 : w1.cell? ⟨T, 1, none⟩ = some (Pp O) := by simp [World.cell?, hb1]
  clear k1 R1 z1 q1 s1 hT1 hM1 hb1 m1 O1 P1 pk1 hLn HU c1 c2 hg
  go_wp2_with fail
  refine HL.out.mono ?_
  rintro e w2 ⟨rfl, k2, R2, z2, q2, s2⟩
  have hk2 : ∀ b ∈ O :: p :: (A ++ B).map (·.2), b ∈ O :: (A ++ (k, p) :: B).map (·.2) := fun b hm => by
    simp only [List.mem_cons, List.map_append, List.mem_append, List.map_cons] at hm ⊢
    rcases hm with h | h | h | h
    · exact .inl h
    · exact .inr (.inr (.inl h))
    · exact .inr (.inl h)
    · exact .inr (.inr (.inr h))
  have HK2 := Hid.mk k2
  have HQ2 := Hid.mk q2
  have HS2 := Hid.mk s2
  have HR2 := Hid.mk R2
  have H6 := Hid.mk hk2
  clear k2 q2 s2 R2 hk2 HL d1
  go_wp2_with fail
  go_ret2
  refine ⟨rfl, HK2.out.keeps HB1.out (fun hm => HT1.out (H6.out _ hm)), ⟨HS2.out _ _ _ HO1.out, (HQ2.out O).trans HP1.out, (HMM.out.kept HK2.out (fun hm => HM1.out (H6.out _ hm))).perm H4.out, fun y hy => ?_, by rw [nds, List.map_append]; exact HR2.out, ?_, ?_⟩, ?_⟩
  · have hy' := H4.out.mem_iff.2 hy
    exact ⟨HS2.out _ _ _ (HPK.out y hy').1, (HQ2.out _).trans (HPK.out y hy').2⟩
  · rw [List.map_append, List.nodup_append]
    exact ⟨H1.out, by simp, fun a ha b hb e => H3.out (by simp at hb; rw [← hb, ← e]; exact ha)⟩
  · rw [List.map_append, List.mem_append, not_or]
    exact ⟨H2.out, by simp; exact fun e => HO.out.apart (List.mem_map.2 ⟨_, hx, e.symm⟩)⟩
  · have up : ∀ b ∈ O :: (A ++ (k, p) :: B).map (·.2), b ∈ T :: footO O M (A ++ (k, p) :: B) := fun b hb => by
      simp only [footO, List.mem_cons] at hb ⊢
      rcases hb with h | h
      · exact .inr (.inl h)
      · exact .inr (.inr (.inr h))
    exact (HK1.out.mono (fun b hb => .inl (up b hb))).trans HK2.out (fun b hb => .inl (up b (H6.out b hb)))
theorem cp_eq (m : Int) : max m 1 = ((cp m : Nat) : Int) := by unfold cp; omega
theorem cp_pos (m : Int) : 1 ≤ cp m := by unfold cp; omega
/-- What is known ahead of a key that is laid in: an order without it. -/
structure Ahead (w0 w : World) (T : Nat) (m : Int) (O M : Nat) (PL : List (Ky × Nat)) (F : List Nat) (k : Ky) : Prop where
  box : w.heap[T]? = some (.cells #[.int .i64 m, Pp O] 30 (0, 0))
  or : IsO w O M PL
  kept : Kept F w0 w
  foot : ∀ b ∈ T :: footO O M PL, b ∈ F ∨ w0.heap.size ≤ b
  len : k.length ≤ 140737488355328
  few : PL.length ≤ 10000
  not : k ∉ PL.map (·.1)
theorem Ahead.add {w0 : World} {O M : Nat} {PL : List (Ky × Nat)} {k : Ky} (h : Ahead w0 w T m O M PL F k) : ∀ W, Kept [] w W → Calls Try.prog 22 #[Pp O, Sv k] W fun e w' => e = .returned (.tuple #[]) ∧ ∃ p, w'.heap[T]? = some (.cells #[.int .i64 m, Pp O] 30 (0, 0)) ∧ IsO w' O M (PL ++ [(k, p)]) ∧ Kept F w0 w' ∧ ∀ b ∈ T :: footO O M (PL ++ [(k, p)]), b ∈ F ∨ w0.heap.size ≤ b := fun W kW => by
  have hO := h.or.kept kW (by simp)
  refine (hO.add h.not h.len (by have := h.few; omega)).mono ?_
  rintro e w' ⟨rfl, h1, k1⟩
  have hb := kW.keeps h.box (by simp)
  have kk := h.kept.size
  have kz := kW.size
  refine ⟨rfl, W.heap.size, k1.keeps hb (hO.apartT hb), h1, ((h.kept.trans kW (by simp)).trans k1 (fun b hb => h.foot b (List.mem_cons_of_mem _ hb))), fun b hb => ?_⟩
  simp only [footO, List.mem_cons, List.map_append, List.mem_append, List.map_cons, List.map_nil, List.not_mem_nil, or_false] at hb
  rcases hb with hb | hb | hb | hb | hb
  · exact h.foot b (by simp [hb])
  · exact h.foot b (by simp [footO, hb])
  · exact h.foot b (by simp [footO, hb])
  · exact h.foot b (by simp only [footO, List.mem_cons]; exact .inr (.inr (.inr hb)))
  · exact .inr (by omega)
theorem touch_yes {c : Nat} {L : List Ky} {k : Ky} (h : k ∉ L) (hl : L.length + 1 ≤ c) : touchT c L k = (L ++ [k], none) := by
  unfold touchT addT
  rw [noT_none h, if_pos (by simpa using hl)]
theorem touch_no {c : Nat} {L R : List Ky} {k y : Ky} (h : k ∉ L) (hl : ¬ L.length + 1 ≤ c) (e : L ++ [k] = y :: R) : touchT c L k = (R, some y) := by
  unfold touchT addT
  rw [noT_none h, if_neg (by simpa using hl), e]
  rfl
theorem touch_at {c : Nat} {A B : List (Ky × Nat)} {k : Ky} {p : Nat} (h : ((A ++ (k, p) :: B).map (·.1)).Nodup) (hl : ((A ++ (k, p) :: B).map (·.1)).length ≤ c) : touchT c ((A ++ (k, p) :: B).map (·.1)) k = ((A ++ B ++ [(k, p)]).map (·.1), none) := by
  unfold touchT addT
  rw [noT_mid h, if_pos (by simp only [List.map_append, List.length_append, List.map_cons, List.length_cons, List.length_map, List.length_nil] at hl ⊢; omega)]
  simp
set_option maxHeartbeats 4000000 in
/-- .. of a key that isn't there, in an order. -/
theorem touch10_not {O M : Nat} {PL : List (Ky × Nat)} {k : Ky} (h : Ahead w w T m O M PL F k) (hF : F = T :: footO O M PL) : Calls Try.prog 10 #[Pp T, Sv k] w (TouchEnd w T m (PL.map (·.1)) F k) := by
  have hb := h.box
  have c1 : w.cell? ⟨T, 1, none⟩ = some (Pp O) := by simp [World.cell?, hb]
  have c2 := h.or.places
  have hg := h.or.mp.look_none h.len h.not
  have HH := Hid.mk h
  have HA := Hid.mk h.add
  have HC := Hid.mk (fun W => clone23 (w := W) k (by have := h.len; omega))
  have S00 := c1
  have HKd := Hid.mk ((Kept.refl [] w).drew)
  have S0 : w.drew.cell? ⟨T, 1, none⟩ = some (Pp O) := c1
  clear h
  go_enter Try.func10, Try.ntmps10
  go_wp2_with fail
  go_region_held3 (fun V => V.cell? ⟨T, 1, none⟩ = some (Pp O)) (first | exact S0 | exact S1) (first | (go_at_call 22; refine (HA.out _ HK2.out).mono ?_; rintro e w3 ⟨rfl, p, hb3, h3, k3, f3⟩; have S1 : w3.cell? ⟨T, 1, none⟩ = some (Pp O) := (by simp [World.cell?, hb3])) | (go_at_call 23; refine (HC.out _).mono ?_; rintro e w2 ⟨rfl, k2⟩; have S1 := (HKd.out.trans k2 (by simp)).cell_eq S00; have HK2 := Hid.mk (HKd.out.trans k2 (by simp)); clear k2))
  have HB3 := Hid.mk hb3
  have HO3 := Hid.mk h3
  have HK3 := Hid.mk k3
  have HF3 := Hid.mk f3
  have HM := Hid.mk (most18 (w := w3) (T := T) (m := m) (.inr ⟨O, M, _, hb3, h3, rfl, rfl⟩))
  rw [cp_eq] at HM
  have d2 := h3.places
  obtain ⟨N, hN⟩ : ∃ N, (PL ++ [(k, p)]).length = N := ⟨_, rfl⟩
  have hlen := fun ty => h3.mp.size ty
  rw [hN] at hlen
  have HN := Hid.mk hN
  have HL0 : Hid ((PL.map (·.1)).length + 1 = N) := by show _ = _; rw [← hN]; simp
  obtain ⟨x, B, hxB⟩ : ∃ x B, PL ++ [(k, p)] = x :: B := by cases PL <;> simp
  have HX := Hid.mk hxB
  have h4 := h3
  rw [hxB] at h4
  have d3 : w3.cell? ⟨O, 3, none⟩ = some (Pp x.2) := h4.ring.1.1
  have HR := Hid.mk (IsO.remove (A := []) h4)
  clear hb3 h3 k3 f3 hN hxB h4 c1 c2 hg HA HC HKd S0 S00
  by_cases hle : N ≤ cp m
  · have hI : ((N : Int) ≤ (cp m : Int)) := by omega
    have HLE := Hid.mk hle
    clear hle HR d3
    go_wp2_with (go_at_call 18; refine HM.out.mono ?_; rintro e w4 ⟨rfl, rfl⟩)
    go_ret2
    unfold TouchEnd
    rw [touch_yes HH.out.not (by have := HL0.out; have := HLE.out; omega)]
    refine ⟨rfl, _, .inr ⟨O, M, _, HB3.out, HO3.out, by simp, rfl⟩, HK3.out, HF3.out⟩
  · have hI : ¬ ((N : Int) ≤ (cp m : Int)) := by omega
    have HLE := Hid.mk hle
    clear hle
    go_wp2_with (go_at_call 18; refine HM.out.mono ?_; rintro e w4 ⟨rfl, rfl⟩)
    refine HR.out.mono ?_
    rintro e w4 ⟨rfl, h4, k4, c4⟩
    have H4 := Hid.mk h4
    have K4 := Hid.mk k4
    clear h4 k4 S1 d2 d3 hlen
    go_wp2_with fail
    go_ret2
    have hT3 : T ∉ footO O M (x :: B) := by
      have := HO3.out.apartT HB3.out
      rw [HX.out] at this
      exact this
    unfold TouchEnd
    rw [touch_no (y := x.1) (R := B.map (·.1)) HH.out.not (by have := HL0.out; have := HLE.out; omega) (by have := congrArg (List.map (·.1)) HX.out; simpa using this)]
    refine ⟨rfl, _, .inr ⟨O, M, B, K4.out.keeps HB3.out hT3, H4.out, rfl, rfl⟩, HK3.out.trans K4.out (fun b hb => ?_), fun b hb => ?_⟩
    · refine HF3.out b ?_
      rw [HX.out]
      exact List.mem_cons_of_mem _ hb
    · refine HF3.out b ?_
      rw [HX.out]
      simp only [footO, List.mem_cons, List.map_cons] at hb ⊢
      rcases hb with h | h | h | h
      · exact .inl h
      · exact .inr (.inl h)
      · exact .inr (.inr (.inl h))
      · exact .inr (.inr (.inr (.inr h)))
set_option maxHeartbeats 4000000 in
/-- .. of any key, where there is no order yet. -/
theorem touch10_new {k : Ky} (hb : w.heap[T]? = some (.cells #[.int .i64 m, .pointer none] 30 (0, 0))) (hl : k.length ≤ 140737488355328) : Calls Try.prog 10 #[Pp T, Sv k] w (TouchEnd w T m (([] : List (Ky × Nat)).map (·.1)) [T] k) := by
  have c1 : w.cell? ⟨T, 1, none⟩ = some (.pointer none) := by simp [World.cell?, hb]
  have HNew := Hid.mk (newOrder19 w)
  go_enter Try.func10, Try.ntmps10
  go_wp2_with fail
  refine HNew.out.mono ?_
  rintro e w1 ⟨O, M, rfl, hO, k1, zO, zM⟩
  have hb1 := k1.keeps hb (by simp)
  have g1 : w1.cell? ⟨T, 1, none⟩ = some (.pointer none) := by simp [World.cell?, hb1]
  have g2 : w1.frozen? ⟨T, 1, none⟩ = false := by simp [World.frozen?, hb1]
  have hlt := lt_of_block hb
  have hb2 : (w1.setCell ⟨T, 1, none⟩ (Pp O)).heap[T]? = some (.cells #[.int .i64 m, Pp O] 30 (0, 0)) := set_at hb1
  have kS : Kept [T] w1 (w1.setCell ⟨T, 1, none⟩ (Pp O)) := (Kept.refl [T] w1).setCell (p := ⟨T, 1, none⟩) (.inl (by simp)) _
  have hO2 : IsO (w1.setCell ⟨T, 1, none⟩ (Pp O)) O M [] := hO.kept kS (fun b hb => by
    simp [footO] at hb ⊢
    omega)
  have h : Ahead w (w1.setCell ⟨T, 1, none⟩ (Pp O)) T m O M [] [T] k := ⟨hb2, hO2, (k1.mono (by simp)).trans kS (by simp), fun b hb => by
    simp [footO] at hb ⊢
    omega, hl, by simp, by simp⟩
  have c2 := h.or.places
  have hg := h.or.mp.look_none h.len h.not
  have HH := Hid.mk h
  have HA := Hid.mk h.add
  have HC := Hid.mk (fun W => clone23 (w := W) k (by omega))
  have S00 : (w1.setCell ⟨T, 1, none⟩ (Pp O)).cell? ⟨T, 1, none⟩ = some (Pp O) := by simp [World.cell?, hb2]
  have HKd := Hid.mk ((Kept.refl [] (w1.setCell ⟨T, 1, none⟩ (Pp O))).drew)
  have S0 : (w1.setCell ⟨T, 1, none⟩ (Pp O)).drew.cell? ⟨T, 1, none⟩ = some (Pp O) := S00
  clear h hb hb1 hb2 hO hO2 kS k1 zO zM hlt HNew
  go_wp2_with fail
  go_region_held3 (fun V => V.cell? ⟨T, 1, none⟩ = some (Pp O)) (first | exact S0 | exact S1) (first | (go_at_call 22; refine (HA.out _ HK2.out).mono ?_; rintro e w3 ⟨rfl, p, hb3, h3, k3, f3⟩; have S1 : w3.cell? ⟨T, 1, none⟩ = some (Pp O) := (by simp [World.cell?, hb3])) | (go_at_call 23; refine (HC.out _).mono ?_; rintro e w2 ⟨rfl, k2⟩; have S1 := (HKd.out.trans k2 (by simp)).cell_eq S00; have HK2 := Hid.mk (HKd.out.trans k2 (by simp)); clear k2))
  have HB3 := Hid.mk hb3
  have HO3 := Hid.mk h3
  have HK3 := Hid.mk k3
  have HF3 := Hid.mk f3
  have HM := Hid.mk (most18 (w := w3) (T := T) (m := m) (.inr ⟨O, M, _, hb3, h3, rfl, rfl⟩))
  rw [cp_eq] at HM
  have d2 := h3.places
  obtain ⟨N, hN⟩ : ∃ N, ([] ++ [(k, p)] : List (Ky × Nat)).length = N := ⟨_, rfl⟩
  have hlen := fun ty => h3.mp.size ty
  rw [hN] at hlen
  have HN := Hid.mk hN
  have HL0 : Hid ((([] : List (Ky × Nat)).map (·.1)).length + 1 = N) := by show _ = _; rw [← hN]; simp
  obtain ⟨x, B, hxB⟩ : ∃ x B, ([] ++ [(k, p)] : List (Ky × Nat)) = x :: B := ⟨_, _, rfl⟩
  have HX := Hid.mk hxB
  have h4 := h3
  rw [hxB] at h4
  have d3 : w3.cell? ⟨O, 3, none⟩ = some (Pp x.2) := h4.ring.1.1
  have HR := Hid.mk (IsO.remove (A := []) h4)
  clear hb3 h3 k3 f3 hN hxB h4 c1 c2 hg HA HC HKd S0 S00
  by_cases hle : N ≤ cp m
  · have hI : ((N : Int) ≤ (cp m : Int)) := by omega
    have HLE := Hid.mk hle
    clear hle HR d3
    go_wp2_with (go_at_call 18; refine HM.out.mono ?_; rintro e w4 ⟨rfl, rfl⟩)
    go_ret2
    unfold TouchEnd
    rw [touch_yes HH.out.not (by have := HL0.out; have := HLE.out; omega)]
    refine ⟨rfl, _, .inr ⟨O, M, _, HB3.out, HO3.out, by simp, rfl⟩, HK3.out, HF3.out⟩
  · have hI : ¬ ((N : Int) ≤ (cp m : Int)) := by omega
    have HLE := Hid.mk hle
    clear hle
    go_wp2_with (go_at_call 18; refine HM.out.mono ?_; rintro e w4 ⟨rfl, rfl⟩)
    refine HR.out.mono ?_
    rintro e w4 ⟨rfl, h4, k4, c4⟩
    have H4 := Hid.mk h4
    have K4 := Hid.mk k4
    clear h4 k4 S1 d2 d3 hlen
    go_wp2_with fail
    go_ret2
    have hT3 : T ∉ footO O M (x :: B) := by
      have := HO3.out.apartT HB3.out
      rw [HX.out] at this
      exact this
    unfold TouchEnd
    rw [touch_no (y := x.1) (R := B.map (·.1)) HH.out.not (by have := HL0.out; have := HLE.out; omega) (by have := congrArg (List.map (·.1)) HX.out; simpa using this)]
    refine ⟨rfl, _, .inr ⟨O, M, B, K4.out.keeps HB3.out hT3, H4.out, rfl, rfl⟩, HK3.out.trans K4.out (fun b hb => ?_), fun b hb => ?_⟩
    · refine HF3.out b ?_
      rw [HX.out]
      exact List.mem_cons_of_mem _ hb
    · refine HF3.out b ?_
      rw [HX.out]
      simp only [footO, List.mem_cons, List.map_cons] at hb ⊢
      rcases hb with h | h | h | h
      · exact .inl h
      · exact .inr (.inl h)
      · exact .inr (.inr (.inl h))
      · exact .inr (.inr (.inr (.inr h)))
/-- Touch. -/
theorem touch10 (h : IsT w T m L F) {k : Ky} (hl : k.length ≤ 140737488355328) (hc : L.length ≤ cp m) (hm : cp m ≤ 10000) : Calls Try.prog 10 #[Pp T, Sv k] w (TouchEnd w T m L F k) := by
  rcases h with ⟨hb, rfl, rfl⟩ | ⟨O, M, PL, hb, hO, rfl, rfl⟩
  · exact touch10_new hb hl
  · by_cases hk : k ∈ PL.map (·.1)
    · obtain ⟨⟨k, p⟩, hx, rfl⟩ := List.mem_map.1 hk
      obtain ⟨A, B, rfl⟩ := List.append_of_mem hx
      refine (touch10_at hb hO).mono ?_
      rintro e w' ⟨rfl, h1, h2, k1⟩
      unfold TouchEnd
      rw [touch_at hO.mp.nodup hc]
      refine ⟨rfl, _, .inr ⟨O, M, _, h1, h2, rfl, rfl⟩, k1, fun b hb => .inl ?_⟩
      simp only [footO, List.mem_cons, List.map_append, List.mem_append, List.map_cons, List.map_nil, List.not_mem_nil, or_false] at hb ⊢
      rcases hb with h | h | h | (h | h) | h
      · exact .inl h
      · exact .inr (.inl h)
      · exact .inr (.inr (.inl h))
      · exact .inr (.inr (.inr (.inl h)))
      · exact .inr (.inr (.inr (.inr (.inr h))))
      · exact .inr (.inr (.inr (.inr (.inl h))))
    · have hL : PL.length ≤ 10000 := by simp at hc; omega
      exact touch10_not ⟨hb, hO, Kept.refl _ _, fun b hb => .inl hb, hl, hL, hk⟩ rfl
end
end Go.Proofs.Ytmihpgejaobdbaa
