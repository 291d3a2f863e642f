/-
  An order: its map, its ends, its places; newOrder, add, remove.
-/
import Derived.Test.YtmihpgejaobdbaaUn
namespace Go.Proofs.Ytmihpgejaobdbaa
set_option maxRecDepth 100000
open Go.RowKit
set_option linter.unusedVariables false
/-- Where a place begins. -/
abbrev nd (x : Ky × Nat) : Nd := (x.2, 0)
abbrev nds (L : List (Ky × Nat)) : List Nd := L.map nd
/-- The blocks of an order. -/
def footO (O M : Nat) (L : List (Ky × Nat)) : List Nat := O :: M :: L.map (·.2)
/-- An order at O, its map at M, its keys and their places L, who was touched last last. -/
structure IsO (w : World) (O M : Nat) (L : List (Ky × Nat)) : Prop where
  bk : Bk w O 4 53
  places : w.cell? ⟨O, 0, none⟩ = some (.map (some M))
  mp : Mp w M L
  pk : ∀ x ∈ L, Bk w x.2 3 51 ∧ w.cell? ⟨x.2, 0, none⟩ = some (Sv x.1)
  ring : Seg w (O, 1) (O, 1) (nds L)
  nodup : (L.map (·.2)).Nodup
  apart : O ∉ L.map (·.2)
theorem nds_fst (L : List (Ky × Nat)) : (nds L).map (·.1) = L.map (·.2) := by simp [nds]
theorem IsO.mo {w : World} {O M : Nat} {L : List (Ky × Nat)} (h : IsO w O M L) : M ≠ O ∧ M ∉ L.map (·.2) := by
  obtain ⟨es, clock, hb⟩ := h.mp.is
  constructor
  · rintro rfl
    obtain ⟨cs, h1, _⟩ := h.bk
    rw [hb] at h1
    cases h1
  · intro hm
    obtain ⟨x, hx, rfl⟩ := List.mem_map.1 hm
    obtain ⟨cs, h1, _⟩ := (h.pk x hx).1
    rw [hb] at h1
    cases h1
theorem IsO.lt {w : World} {O M : Nat} {L : List (Ky × Nat)} (h : IsO w O M L) : ∀ b ∈ footO O M L, b < w.heap.size := by
  intro b hb
  simp only [footO, List.mem_cons] at hb
  rcases hb with rfl | rfl | hb
  · exact h.bk.lt
  · exact h.mp.lt
  · obtain ⟨x, hx, rfl⟩ := List.mem_map.1 hb
    exact (h.pk x hx).1.lt
theorem Seg.same {w w' : World} {z : Nd} {ns : List Nd} : ∀ {a : Nd}, Seg w z a ns → (∀ m ∈ a :: z :: ns, ∀ i, w'.cell? (Nd.ad m i) = w.cell? (Nd.ad m i)) → Seg w' z a ns := by
  induction ns with
  | nil => intro a h e; exact ⟨(e a (by simp) 2).trans h.1, (e z (by simp) 1).trans h.2⟩
  | cons n ns ih =>
    intro a h e
    refine ⟨⟨(e a (by simp) 2).trans h.1.1, (e n (by simp) 1).trans h.1.2⟩, ih h.2 (fun m hm i => e m ?_ i)⟩
    simp only [List.mem_cons] at hm ⊢
    rcases hm with h | h | h
    · exact .inr (.inr (.inl h))
    · exact .inr (.inl h)
    · exact .inr (.inr (.inr h))
theorem IsO.kept {S : List Nat} {w w' : World} {O M : Nat} {L : List (Ky × Nat)} (h : IsO w O M L) (k : Kept S w w') (hn : ∀ b ∈ footO O M L, b ∉ S) : IsO w' O M L := by
  have hO : O ∉ S := hn O (by simp [footO])
  have hP : ∀ x ∈ L, x.2 ∉ S := fun x hx => hn x.2 (by simp only [footO, List.mem_cons]; exact .inr (.inr (List.mem_map.2 ⟨x, hx, rfl⟩)))
  refine ⟨h.bk.kept k hO, (k.cell h.bk.lt hO).trans h.places, h.mp.kept k (hn M (by simp [footO])), fun x hx => ⟨(h.pk x hx).1.kept k (hP x hx), (k.cell (h.pk x hx).1.lt (hP x hx)).trans (h.pk x hx).2⟩, h.ring.same (fun m hm i => ?_), h.nodup, h.apart⟩
  simp only [List.mem_cons, List.mem_map] at hm
  rcases hm with rfl | rfl | ⟨x, hx, rfl⟩
  · exact k.cell h.bk.lt hO
  · exact k.cell h.bk.lt hO
  · exact k.cell (h.pk x hx).1.lt (hP x hx)
/-- One's place is in two blocks. -/
theorem bk_ne {w : World} {a b n m : Nat} {s t : TypeId} (h : Bk w a n s) (k : Bk w b m t) (hst : s ≠ t) : a ≠ b := by
  rintro rfl
  obtain ⟨cs, h1, _⟩ := h
  obtain ⟨ds, h2, _⟩ := k
  rw [h1] at h2
  injection h2 with h2
  injection h2 with _ h2
  exact hst h2
theorem nd_bk {w : World} {O M : Nat} {L : List (Ky × Nat)} (h : IsO w O M L) {m : Nd} (hm : m ∈ (O, 1) :: nds L) : ∃ k t, Bk w m.1 k t ∧ m.2 + 2 < k := by
  rcases List.mem_cons.1 hm with rfl | hm
  · exact ⟨4, 53, h.bk, by simp⟩
  · obtain ⟨x, hx, rfl⟩ := List.mem_map.1 hm
    exact ⟨3, 51, (h.pk x hx).1, by simp⟩
section
variable {w : World} {O M : Nat} {A B L : List (Ky × Nat)} {x : Ky × Nat}
set_option maxHeartbeats 2000000 in
/-- unlink, of a place in the ring. -/
theorem unlink_of (hr : Seg w (O, 1) (O, 1) (nds (A ++ x :: B))) (hL : ∀ m ∈ (O, 1) :: nds (A ++ x :: B), ∃ k t, Bk w m.1 k t ∧ m.2 + 2 < k) (hnodup : ((A ++ x :: B).map (·.2)).Nodup) (hapart : O ∉ (A ++ x :: B).map (·.2)) (bx : Bk w x.2 3 51) : Calls Try.prog 20 #[Pp x.2] w fun e w' => e = .returned (.tuple #[]) ∧ Kept (O :: (A ++ x :: B).map (·.2)) w w' ∧
    Seg w' (O, 1) (O, 1) (nds (A ++ B)) ∧ w'.heap.size = w.heap.size ∧ (∀ b, w'.cell? ⟨b, 0, none⟩ = w.cell? ⟨b, 0, none⟩) ∧ ∀ b n t, Bk w b n t → Bk w' b n t := by
  have hx : x ∈ A ++ x :: B := by simp
  have e : nds (A ++ x :: B) = nds A ++ nd x :: nds B := by simp [nds]
  rw [e] at hr
  obtain ⟨h1, h2, h3⟩ := (seg_split w (O, 1) (nds A) (nd x :: nds B) (O, 1)).1 hr
  have hnd : ((nds A ++ nd x :: nds B).map (·.1)).Nodup := by rw [← e, nds_fst]; exact hnodup
  have hap : (O, 1).1 ∉ (nds A ++ nd x :: nds B).map (·.1) := by rw [← e, nds_fst]; exact hapart
  have hlm := lst_mem (nds A) (O, 1)
  have hdm := hdd_mem (O, 1) (nds B)
  have inL : ∀ m ∈ (O, 1) :: nds A, m ∈ (O, 1) :: nds (A ++ x :: B) := fun m hm => by
    rw [e]; simp only [List.mem_cons, List.mem_append] at hm ⊢
    rcases hm with hm | hm
    · exact .inl hm
    · exact .inr (.inl hm)
  have inD : ∀ m ∈ nds B ++ [(O, 1)], m ∈ (O, 1) :: nds (A ++ x :: B) := fun m hm => by
    rw [e]; simp only [List.mem_cons, List.mem_append, List.not_mem_nil, or_false] at hm ⊢
    rcases hm with hm | hm
    · exact .inr (.inr (.inr hm))
    · exact .inl hm
  obtain ⟨kl, tl, bl, hl⟩ := hL _ (inL _ hlm)
  obtain ⟨kd, td, bd, hd⟩ := hL _ (inD _ hdm)
  rw [List.map_append, List.map_cons, List.nodup_append] at hnd
  obtain ⟨d1, d2, d3⟩ := hnd
  rw [List.nodup_cons] at d2
  rw [List.map_append, List.map_cons, List.mem_append, List.mem_cons] at hap
  have nl : (lst (O, 1) (nds A)).1 ≠ (nd x).1 := by
    rcases List.mem_cons.1 hlm with e' | hm
    · rw [e']; exact fun e'' => hap (.inr (.inl e''))
    · exact d3 _ (List.mem_map.2 ⟨_, hm, rfl⟩) _ (by simp)
  have ndd : (hdd (O, 1) (nds B)).1 ≠ (nd x).1 := by
    rcases List.mem_append.1 hdm with hm | e'
    · exact fun e'' => d2.1 (e'' ▸ List.mem_map.2 ⟨_, hm, rfl⟩)
    · rw [List.mem_singleton.1 e']; exact fun e'' => hap (.inr (.inl e''))
  have nxy : ¬ ((lst (O, 1) (nds A)).1 = (hdd (O, 1) (nds B)).1 ∧ (lst (O, 1) (nds A)).2 + 2 = (hdd (O, 1) (nds B)).2 + 1) := by
    rintro ⟨e1, e2⟩
    rcases List.mem_cons.1 hlm with e' | hm <;> rcases List.mem_append.1 hdm with hm' | e''
    · rw [e'] at e1
      exact hap (.inr (.inr (e1 ▸ List.mem_map.2 ⟨_, hm', rfl⟩)))
    · rw [e', List.mem_singleton.1 e''] at e2
      simp at e2
    · exact d3 _ (List.mem_map.2 ⟨_, hm, rfl⟩) _ (by rw [e1]; simp only [List.mem_cons]; exact .inr (List.mem_map.2 ⟨_, hm', rfl⟩)) rfl
    · rw [List.mem_singleton.1 e''] at e1
      exact hap (.inl (e1 ▸ List.mem_map.2 ⟨_, hm, rfl⟩))
  refine (unlink20 0 bx rfl h2.2 h3.1.1 bl bd hl (by omega) nl ndd nxy).mono ?_
  rintro e' w' ⟨rfl, W⟩
  refine ⟨rfl, W.kept ?_, ?_, W.size, fun b => W.cell _ ?_, W.shape⟩
  · have cov : ∀ m ∈ (O, 1) :: nds (A ++ x :: B), m.1 ∈ O :: (A ++ x :: B).map (·.2) := fun m hm => by
      rcases List.mem_cons.1 hm with rfl | hm
      · simp
      · rw [← nds_fst]; exact List.mem_cons_of_mem _ (List.mem_map.2 ⟨m, hm, rfl⟩)
    intro a ha
    simp only [List.mem_cons, List.not_mem_nil, or_false] at ha
    rcases ha with rfl | rfl | rfl | rfl
    · show x.2 ∈ _
      simp
    · show x.2 ∈ _
      simp
    · exact cov _ (inD _ hdm)
    · exact cov _ (inL _ hlm)
  · have := ring_out (e := (O, 1)) (n := nd x) hr (by rw [← e, nds_fst]; exact hnodup) (by rw [← e, nds_fst]; exact hapart) W
    simpa [nds] using this
  · intro a ha
    simp only [List.mem_cons, List.not_mem_nil, or_false] at ha
    rcases ha with rfl | rfl | rfl | rfl <;> (intro e'; injection e' with _ e2; omega)
set_option maxHeartbeats 2000000 in
/-- link, of a place that is in no ring. -/
theorem link_of (hO : Bk w O 4 53) (hr : Seg w (O, 1) (O, 1) (nds L)) (hL : ∀ m ∈ (O, 1) :: nds L, ∃ k t, Bk w m.1 k t ∧ m.2 + 2 < k) (hnodup : (L.map (·.2)).Nodup) (hapart : O ∉ L.map (·.2)) {p : Nat} (bp : Bk w p 3 51) (hp : p ∉ L.map (·.2)) : Calls Try.prog 21 #[Pp O, Pp p] w fun e w' => e = .returned (.tuple #[]) ∧ Kept (O :: p :: L.map (·.2)) w w' ∧
    Seg w' (O, 1) (O, 1) (nds L ++ [(p, 0)]) ∧ w'.heap.size = w.heap.size ∧ (∀ b, w'.cell? ⟨b, 0, none⟩ = w.cell? ⟨b, 0, none⟩) ∧ ∀ b n t, Bk w b n t → Bk w' b n t := by
  obtain ⟨h1, h2, h3⟩ := (seg_split w (O, 1) (nds L) [] (O, 1)).1 (by simpa using hr)
  have hlm := lst_mem (nds L) (O, 1)
  obtain ⟨kl, tl, bl, hl⟩ := hL _ hlm
  have npO : p ≠ O := bk_ne bp hO (by decide)
  have nl : (lst (O, 1) (nds L)).1 ≠ p := by
    rcases List.mem_cons.1 hlm with e' | hm
    · rw [e']; exact npO.symm
    · exact fun e'' => hp (by rw [← nds_fst]; exact e'' ▸ List.mem_map.2 ⟨_, hm, rfl⟩)
  have nlO : ¬ ((lst (O, 1) (nds L)).1 = O ∧ (lst (O, 1) (nds L)).2 + 2 = 2) := by
    rintro ⟨e1, e2⟩
    rcases List.mem_cons.1 hlm with e' | hm
    · rw [e'] at e2; simp at e2
    · exact hapart (by rw [← nds_fst]; exact e1 ▸ List.mem_map.2 ⟨_, hm, rfl⟩)
  refine (link21 (n := (p, 0)) bp rfl hO h2.2 bl hl npO nl nlO).mono ?_
  rintro e' w' ⟨rfl, W⟩
  refine ⟨rfl, W.kept ?_, ?_, W.size, fun b => W.cell _ ?_, W.shape⟩
  · intro a ha
    simp only [List.mem_cons, List.not_mem_nil, or_false] at ha
    rcases ha with rfl | rfl | rfl | rfl
    · simp
    · rcases List.mem_cons.1 hlm with e' | hm
      · rw [e']; simp
      · rw [← nds_fst]; simp only [List.mem_cons]; exact .inr (.inr (List.mem_map.2 ⟨_, hm, rfl⟩))
    · simp
    · simp
  · exact ring_in (e := (O, 1)) (n := (p, 0)) hr (by rw [nds_fst]; exact hnodup) (by rw [nds_fst]; exact hapart) (by rw [nds_fst]; exact hp) npO W
  · intro a ha
    simp only [List.mem_cons, List.not_mem_nil, or_false] at ha
    rcases ha with rfl | rfl | rfl | rfl <;> (intro e'; injection e' with _ e2; omega)
set_option maxHeartbeats 2000000 in
/-- newOrder. -/
theorem newOrder19 (w : World) : Calls Try.prog 19 #[] w fun e w' => ∃ O M, e = .returned (Pp O) ∧ IsO w' O M [] ∧ Kept [] w w' ∧ w.heap.size ≤ O ∧ w.heap.size ≤ M := by
  have hmm := @run_makeMap Try.prog
  go_enter Try.func19, Try.ntmps19
  go_wp2_with fail
  obtain ⟨W0, e0, k0, hz0, hm0, hb0⟩ := box2 w (.map #[] 0) (.cells #[.map (some w.heap.size), .string { data := #[] }, .pointer none, .pointer none] 53)
  have mp0 : Mp W0 w.heap.size [] := (Mp.made w).same (by rw [hm0]; exact (heap_alloc_new w _).symm)
  rw [e0]
  clear e0
  have B0 : Bk W0 (w.heap.size + 1) 4 53 := ⟨_, hb0, rfl⟩
  have c1 : W0.cell? ⟨w.heap.size + 1, 2, none⟩ = some (.pointer none) := by simp [World.cell?, hb0]
  have c2 : W0.cell? ⟨w.heap.size + 1, 3, none⟩ = some (.pointer none) := by simp [World.cell?, hb0]
  have c0 : W0.cell? ⟨w.heap.size + 1, 0, none⟩ = some (.map (some w.heap.size)) := by simp [World.cell?, hb0]
  have f1 := B0.free 2
  have f2 := B0.free 3
  have W1 := (Wrt.refl W0).set c1 (by simp) (Nd.pt (w.heap.size + 1, 1))
  have c2' := set_set (u := Nd.pt (w.heap.size + 1, 1)) (b := w.heap.size + 1) (o := 2) (by omega) c2
  have W2 := (W1.set c2' (by simp) (Nd.pt (w.heap.size + 1, 1))).drew
  have HW := Hid.mk W2
  have HM := Hid.mk mp0
  have HB := Hid.mk B0
  have HK := Hid.mk k0
  have H0 := Hid.mk c0
  clear W1 W2 mp0 B0 k0 hm0 hb0 hmm c0
  go_region
  have W2 := HW.out
  generalize (World.drew _) = w2 at W2 ⊢
  go_wp2_with fail
  go_ret
  have B2 := W2.shape _ _ _ HB.out
  refine ⟨w.heap.size + 1, w.heap.size, rfl, ⟨B2, (W2.cell _ (by simp)).trans H0.out, HM.out.same (W2.block _ (by simp)), by simp, ⟨W2.puts (⟨w.heap.size + 1, 3, none⟩, Nd.pt (w.heap.size + 1, 1)) (by simp), W2.puts (⟨w.heap.size + 1, 2, none⟩, Nd.pt (w.heap.size + 1, 1)) (by simp)⟩, by simp, by simp⟩, HK.out.trans (W2.kept (S := [w.heap.size + 1]) (by simp)) (by simp), by omega, by omega⟩
set_option maxHeartbeats 2000000 in
/-- add, of a key that isn't there. -/
theorem IsO.add (h : IsO w O M L) {k : Ky} (hk : k ∉ L.map (·.1)) (hl : k.length ≤ 140737488355328) (hn : L.length < 1000000) : Calls Try.prog 22 #[Pp O, Sv k] w fun e w' => e = .returned (.tuple #[]) ∧
    IsO w' O M (L ++ [(k, w.heap.size)]) ∧ Kept (footO O M L) w w' := by
  have hz := h.lt
  obtain ⟨W0, e0, k0, hz0, hb0⟩ := box1 w (.cells #[Sv k, .pointer none, .pointer none] 51)
  subst e0
  have h0 := h.kept k0 (by simp)
  have B0 : Bk (w.alloc (.cells #[Sv k, .pointer none, .pointer none] 51)) w.heap.size 3 51 := ⟨_, hb0, rfl⟩
  have c0 : (w.alloc (.cells #[Sv k, .pointer none, .pointer none] 51)).cell? ⟨w.heap.size, 0, none⟩ = some (Sv k) := by unfold World.cell?; rw [hb0]; rfl
  have pO := h0.places
  obtain ⟨w1, hrun, m1, k1, z1⟩ := h0.mp.put w.heap.size hl hk hn
  have hP : w.heap.size ∉ L.map (·.2) := fun hm => Nat.lt_irrefl _ (hz _ (by simp only [footO, List.mem_cons]; exact .inr (.inr hm)))
  obtain ⟨nO, nM⟩ := h0.mo
  have hMz := hz M (by simp [footO])
  have B1 := B0.kept k1 (by simp; omega)
  have c1 := (k1.cell B0.lt (p := ⟨w.heap.size, 0, none⟩) (by simp; omega)).trans c0
  have O1 : Bk w1 O 4 53 := h0.bk.kept k1 (by simp; exact fun e => nO e.symm)
  have P1 := (k1.cell h0.bk.lt (p := ⟨O, 0, none⟩) (by simp; exact fun e => nO e.symm)).trans h0.places
  have pk1 : ∀ x ∈ L, Bk w1 x.2 3 51 ∧ w1.cell? ⟨x.2, 0, none⟩ = some (Sv x.1) := fun x hx => by
    have hxM : x.2 ∉ [M] := by simp; exact fun e => nM (e ▸ List.mem_map.2 ⟨x, hx, rfl⟩)
    exact ⟨(h0.pk x hx).1.kept k1 hxM, (k1.cell (h0.pk x hx).1.lt (p := ⟨x.2, 0, none⟩) hxM).trans (h0.pk x hx).2⟩
  have R1 : Seg w1 (O, 1) (O, 1) (nds L) := h0.ring.same (fun m hm i => by
    simp only [List.mem_cons, List.mem_map] at hm
    rcases hm with rfl | rfl | ⟨x, hx, rfl⟩
    · exact k1.cell h0.bk.lt (p := Nd.ad (O, 1) i) (by simp; exact fun e => nO e.symm)
    · exact k1.cell h0.bk.lt (p := Nd.ad (O, 1) i) (by simp; exact fun e => nO e.symm)
    · exact k1.cell (h0.pk x hx).1.lt (p := Nd.ad (nd x) i) (by simp; exact fun e => nM (e ▸ List.mem_map.2 ⟨x, hx, rfl⟩)))
  have HL : Hid (Calls Try.prog 21 #[Pp O, Pp w.heap.size] w1 fun e w' => e = .returned (.tuple #[]) ∧ IsO w' O M (L ++ [(k, w.heap.size)]) ∧ Kept (footO O M L) w w') := by
    have ho : IsO w1 O M (L ++ [(k, w.heap.size)]) → True := fun _ => trivial
    have hL : ∀ m ∈ (O, 1) :: nds L, ∃ k t, Bk w1 m.1 k t ∧ m.2 + 2 < k := fun m hm => by
      rcases List.mem_cons.1 hm with rfl | hm
      · exact ⟨4, 53, O1, by simp⟩
      · obtain ⟨x, hx, rfl⟩ := List.mem_map.1 hm
        exact ⟨3, 51, (pk1 x hx).1, by simp⟩
    refine (link_of O1 R1 hL h.nodup h.apart B1 hP).mono ?_
    rintro e w2 ⟨rfl, k2, R2, z2, c2, s2⟩
    refine ⟨rfl, ⟨s2 _ _ _ O1, (c2 O).trans P1, m1.kept k2 ?_, fun x hx => ?_, by rw [nds, List.map_append]; exact R2, ?_, ?_⟩, ?_⟩
    · simp only [List.mem_cons, not_or]
      exact ⟨nO, by omega, nM⟩
    · rcases List.mem_append.1 hx with hx | hx
      · exact ⟨s2 _ _ _ (pk1 x hx).1, (c2 _).trans (pk1 x hx).2⟩
      · rw [List.mem_singleton.1 hx]
        exact ⟨s2 _ _ _ B1, (c2 _).trans c1⟩
    · rw [List.map_append, List.nodup_append]
      exact ⟨h.nodup, by simp, fun a ha b hb e => hP (by simp at hb; rw [← hb, ← e]; exact ha)⟩
    · rw [List.map_append, List.mem_append, not_or]
      exact ⟨h.apart, by simp; exact fun e => absurd (hz O (by simp [footO])) (by omega)⟩
    · refine ((k0.mono (by simp)).trans k1 (by simp [footO])).trans k2 (fun x hx => ?_)
      simp only [footO, List.mem_cons] at hx ⊢
      rcases hx with rfl | rfl | hx
      · exact .inl (.inl rfl)
      · exact .inr (Nat.le_refl _)
      · exact .inl (.inr (.inr hx))
  clear R1 O1 B1 P1 pk1 k1 m1 c1
  go_enter Try.func22, Try.ntmps22
  go_wp2_with fail
  refine HL.out.mono ?_
  rintro e w2 ⟨rfl, h2, k2⟩
  go_wp2_with fail
  refine bodyPost_end (results_none rfl _ _ _) rfl ?_
  exact ⟨rfl, h2, k2⟩
set_option maxHeartbeats 2000000 in
/-- remove, of a place in the ring. -/
theorem IsO.remove (h : IsO w O M (A ++ x :: B)) : Calls Try.prog 24 #[Pp O, Pp x.2] w fun e w' => e = .returned (.tuple #[]) ∧
    IsO w' O M (A ++ B) ∧ Kept (footO O M (A ++ x :: B)) w w' ∧ w'.cell? ⟨x.2, 0, none⟩ = some (Sv x.1) := by
  have hx : x ∈ A ++ x :: B := by simp
  have sub : ∀ y ∈ A ++ B, y ∈ A ++ x :: B := fun y hy => by
    simp only [List.mem_append, List.mem_cons] at hy ⊢
    rcases hy with hy | hy
    · exact .inl hy
    · exact .inr (.inr hy)
  have pO := h.places
  have pX := (h.pk x hx).2
  obtain ⟨nO, nM⟩ := h.mo
  obtain ⟨k, p⟩ := x
  obtain ⟨w1, hrun, m1, k1, z1⟩ := (h.mp.same (w' := w.drew) rfl).del 0
  have kT : Kept [M] w w1 := ((Kept.refl [M] w).drew).trans k1 (by simp)
  have O1 : Bk w1 O 4 53 := h.bk.kept kT (by simp; exact fun e => nO e.symm)
  have P1 := (kT.cell h.bk.lt (p := ⟨O, 0, none⟩) (by simp; exact fun e => nO e.symm)).trans h.places
  have pk1 : ∀ y ∈ A ++ (k, p) :: B, Bk w1 y.2 3 51 ∧ w1.cell? ⟨y.2, 0, none⟩ = some (Sv y.1) := fun y hy => by
    have hyM : y.2 ∉ [M] := by simp; exact fun e => nM (e ▸ List.mem_map.2 ⟨y, hy, rfl⟩)
    exact ⟨(h.pk y hy).1.kept kT hyM, (kT.cell (h.pk y hy).1.lt (p := ⟨y.2, 0, none⟩) hyM).trans (h.pk y hy).2⟩
  have R1 : Seg w1 (O, 1) (O, 1) (nds (A ++ (k, p) :: B)) := h.ring.same (fun m hm i => by
    simp only [List.mem_cons, List.mem_map] at hm
    rcases hm with rfl | rfl | ⟨y, hy, rfl⟩
    · exact kT.cell h.bk.lt (p := Nd.ad (O, 1) i) (by simp; exact fun e => nO e.symm)
    · exact kT.cell h.bk.lt (p := Nd.ad (O, 1) i) (by simp; exact fun e => nO e.symm)
    · exact kT.cell (h.pk y hy).1.lt (p := Nd.ad (nd y) i) (by simp; exact fun e => nM (e ▸ List.mem_map.2 ⟨y, hy, rfl⟩)))
  have hL : ∀ m ∈ (O, 1) :: nds (A ++ (k, p) :: B), ∃ k t, Bk w1 m.1 k t ∧ m.2 + 2 < k := fun m hm => by
    rcases List.mem_cons.1 hm with rfl | hm
    · exact ⟨4, 53, O1, by simp⟩
    · obtain ⟨y, hy, rfl⟩ := List.mem_map.1 hm
      exact ⟨3, 51, (pk1 y hy).1, by simp⟩
  have HL : Hid (Calls Try.prog 20 #[Pp p] w1 fun e w' => e = .returned (.tuple #[]) ∧ IsO w' O M (A ++ B) ∧ Kept (footO O M (A ++ (k, p) :: B)) w w' ∧ w'.cell? ⟨p, 0, none⟩ = some (Sv k)) := by
    refine (unlink_of R1 hL h.nodup h.apart (pk1 (k, p) hx).1).mono ?_
    rintro e w2 ⟨rfl, k2, R2, z2, c2, s2⟩
    have hnd := h.nodup
    rw [List.map_append, List.map_cons, List.nodup_append, List.nodup_cons] at hnd
    refine ⟨rfl, ⟨s2 _ _ _ O1, (c2 O).trans P1, m1.kept k2 ?_, fun y hy => ⟨s2 _ _ _ (pk1 y (sub y hy)).1, (c2 _).trans (pk1 y (sub y hy)).2⟩, R2, ?_, ?_⟩, ?_, (c2 _).trans (pk1 _ hx).2⟩
    · simp only [List.mem_cons, not_or]
      exact ⟨nO, nM⟩
    · rw [List.map_append, List.nodup_append]
      exact ⟨hnd.1, hnd.2.1.2, fun a ha b hb => hnd.2.2 a ha b (List.mem_cons_of_mem _ hb)⟩
    · intro hm
      obtain ⟨y, hy, e⟩ := List.mem_map.1 hm
      exact h.apart (List.mem_map.2 ⟨y, sub y hy, e⟩)
    · refine (kT.mono (fun y hy => .inl ?_)).trans k2 (fun y hy => .inl ?_)
      · rw [List.mem_singleton.1 hy]; simp [footO]
      · simp only [footO, List.mem_cons] at hy ⊢
        rcases hy with rfl | hy
        · exact .inl rfl
        · exact .inr (.inr hy)
  clear R1 O1 P1 pk1 k1 m1 hL kT
  go_enter Try.func24, Try.ntmps24
  go_wp2_with fail
  go_region
  go_wp2_with fail
  refine HL.out.mono ?_
  rintro e w2 ⟨rfl, h2, k2, c2⟩
  go_wp2_with fail
  refine bodyPost_end (results_none rfl _ _ _) rfl ?_
  exact ⟨rfl, h2, k2, c2⟩
end
end Go.Proofs.Ytmihpgejaobdbaa
