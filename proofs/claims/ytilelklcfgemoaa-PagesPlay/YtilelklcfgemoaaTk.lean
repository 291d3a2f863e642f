/-
  take: one text more, that lies on the disk.
-/
import Derived.Test.YtilelklcfgemoaaUn
namespace Go.Proofs.Ytilelklcfgemoaa
open Go.RowKit
set_option linter.unusedVariables false

/-- One text more, the free blocks as they were. -/
theorem IsP.add {w : World} {G : List Nat} {p q fr ct : Nat} {T : List (Nat × List Nat)} {fl : List Nat} (h : IsP w G p q fr ct T fl) (nm : Nat) (bs : List Nat) (v : Value) (hv : ReadsI w v bs) (hg : ∀ g, v.ownBlock = some g → g < w.heap.size ∧ g ∉ G) (hn : nm ∉ T.map (·.1)) (hnm : nm < 65536) (hT : T.length < 100000) :
    ∃ mb w3 G', w.cell? ⟨p, 3, none⟩ = some (.map (some mb)) ∧ (Instr.mapUpdate 60 (.map (some mb)) (.int .i64 (nm : Int)) v).run Try.prog w = .ok () w3 ∧ IsP w3 G' p q fr ct (T ++ [(nm, bs)]) fl ∧ Kept G w w3 ∧ ∀ x ∈ G', x ∈ G ∨ v.ownBlock = some x := by
  obtain ⟨mb, vf, M, rfl, h1, h2, h3, h4, h5, h6, h7, h8⟩ := h
  obtain ⟨w3, hup, hM3, k3⟩ := h2.put v (wf_nat (n := nm) (by omega)) (by
    rw [keys_map]
    intro hm
    obtain ⟨y, hy, he⟩ := List.mem_map.1 hm
    refine hn ?_
    rw [h3, List.map_map]
    exact List.mem_map.2 ⟨y, hy, by have he' : (y.1 : Int) = (nm : Int) := he; show y.1 = nm; omega⟩) (by rw [List.length_map]; rw [h3, List.length_map] at hT; omega)
  have hvg : ∀ g, v.ownBlock = some g → g < w.heap.size ∧ g ≠ p ∧ g ≠ mb ∧ vf.ownBlock ≠ some g := fun g hgv => by
    have := hg g hgv
    simp only [List.mem_cons, List.mem_append, Option.mem_toList, not_or] at this
    exact ⟨this.1, this.2.1, this.2.2.1, this.2.2.2.1⟩
  refine ⟨mb, w3, p :: mb :: (vf.ownBlock.toList ++ obs ((M ++ [(nm, bs, v)]).map (·.2.2))), by simp [World.cell?, h1], hup, ⟨mb, vf, M ++ [(nm, bs, v)], rfl, k3.keeps h1 (by simp; omega), by rw [List.map_append]; exact hM3, by rw [List.map_append, h3]; rfl, ?_, h5.kept k3 (fun g hg' => by simp; rintro rfl; exact h8 hg'), h6, h7, h8⟩, k3.mono (fun x hx => .inl (by simp at hx; simp [hx])), ?_⟩
  · intro x hx
    have key : ∀ g, x.2.2.ownBlock = some g → g < w.heap.size ∧ g ≠ p ∧ g ≠ mb ∧ vf.ownBlock ≠ some g := fun g hg' => by
      rcases List.mem_append.1 hx with hx | hx
      · exact (h4 x hx).2 g hg'
      · simp at hx; subst hx; exact hvg g hg'
    have hr : ReadsI w x.2.2 x.2.1 := by
      rcases List.mem_append.1 hx with hx | hx
      · exact (h4 x hx).1
      · simp at hx; subst hx; exact hv
    refine ⟨hr.kept k3 (fun g hg' => by have := key g hg'; simp; omega), fun g hg' => ?_⟩
    have := key g hg'
    exact ⟨Nat.lt_of_lt_of_le this.1 k3.size, this.2⟩
  · intro x hx
    simp only [List.mem_cons, List.mem_append, Option.mem_toList, mem_obs, List.mem_map] at hx
    rcases hx with rfl | rfl | hx | ⟨y, ⟨z, hz, rfl⟩, hy⟩
    · exact .inl (by simp)
    · exact .inl (by simp)
    · exact .inl (by simp [hx])
    · rcases hz with hz | hz
      · refine .inl ?_
        simp only [List.mem_cons, List.mem_append, mem_obs, List.mem_map]
        exact .inr (.inr (.inr ⟨_, ⟨z, hz, rfl⟩, hy⟩))
      · simp at hz
        subst hz
        exact .inr hy
section
variable {w : World} {F G : List Nat} {p q fr ct : Nat} {T : List (Nat × List Nat)} {fl : List Nat} {s : St}
set_option maxRecDepth 100000 in
theorem take_twice (hP : IsP w G p q fr ct T fl) (nm : Nat) (bs : List Nat) (hT : (nm, bs) ∈ T) : Calls Try.prog 30 #[.pointer (some ⟨p, 0, none⟩), .int .i64 (nm : Int)] w fun e w' => e = .returned (.int .i64 2) ∧ Kept [] w w' := by
  obtain ⟨mb, M, c3, hM, hTM, hR, -⟩ := hP.map
  obtain ⟨v, hvM, hvm⟩ := IsP.at hTM hT
  have hl := hM.look hvm
  clear hP hM hR
  go_enter Try.func30, Try.ntmps30
  go_wp2
  go_ret
  exact ⟨rfl, Kept.refl [] w⟩
set_option maxRecDepth 100000 in
set_option maxHeartbeats 400000 in
theorem take_no (hP : IsP w G p q fr ct T fl) (nm : Nat) (hnm : nm < 65536) (hT : nm ∉ T.map (·.1)) (hrd : Calls Try.prog 39 #[.pointer (some ⟨p, 0, none⟩), .int .i64 (nm : Int)] w fun e w' => ReadNo w e w') : Calls Try.prog 30 #[.pointer (some ⟨p, 0, none⟩), .int .i64 (nm : Int)] w fun e w' => e = .returned (.int .i64 2) ∧ Kept [] w w' := by
  obtain ⟨mb, M, c3, hM, hTM, hR, -⟩ := hP.map
  have hl := hM.look_none (wf_nat (n := nm) (by omega)) (IsP.noKey hTM (fun x hx e => hT (List.mem_map.2 ⟨x, hx, by omega⟩)))
  clear hP hM hR
  go_enter Try.func30, Try.ntmps30
  go_wp2_with fail
  refine hrd.mono ?_
  rintro e w1 ⟨rfl, k1⟩
  go_wp2
  go_ret
  exact ⟨rfl, k1⟩
set_option maxRecDepth 100000 in
set_option maxHeartbeats 1000000 in
theorem take_ok (hD : IsD w F q s) (hP : IsP w G p q fr ct T fl) (hd : s.down = false) (ha : fr + ct ≤ s.nb) (nm : Nat) (bs : List Nat) (l : List UInt8) (hL : Lies (blk s.ws) nm bs l) (hin : ∀ x ∈ bs, fr ≤ x ∧ x < fr + ct) (hT : nm ∉ T.map (·.1)) (hTl : T.length < 100000) :
    Calls Try.prog 30 #[.pointer (some ⟨p, 0, none⟩), .int .i64 (nm : Int)] w fun e w' => e = .returned (.int .i64 0) ∧ ∃ G', IsP w' G' p q fr ct (T ++ [(nm, bs)]) fl ∧ Kept G w w' ∧ NewF w G G' := by
  have hnm : nm < 65536 := by
    have := hL.first
    exact hL.small nm (List.mem_of_mem_head? (by rw [this]; rfl))
  obtain ⟨mb, M, c3, hM, hTM, hR, -⟩ := hP.map
  have hl := hM.look_none (wf_nat (n := nm) (by omega)) (IsP.noKey hTM (fun x hx e => hT (List.mem_map.2 ⟨x, hx, by omega⟩)))
  have hrd := rd_yes hD hP hd ha nm bs l hL hin
  have hbl : 0 < bs.length := by rw [hL.len]; exact bks_pos _
  have hplt := hP.lt p hP.pG
  have hGlt := hP.lt
  clear hM hR hD
  go_enter Try.func30, Try.ntmps30
  go_wp2_with fail
  refine hrd.mono ?_
  rintro e w1 ⟨v1, v2, rfl, hO1, hO2, k1, hF1, hF2⟩
  obtain ⟨a1, c1, rfl, -⟩ := id hO1.form
  have hP1 := hP.kept k1 (by simp)
  obtain ⟨mb1, w3, G', d3, hup, hP3, k3, hG⟩ := hP1.add nm bs _ hO1.reads (fun g hg => ⟨hO1.lt hg, fun hm => by have := hF1 g hg; have := hGlt g hm; omega⟩) hT hnm hTl
  have Hf : Hid (∃ G', IsP w3 G' p q fr ct (T ++ [(nm, bs)]) fl ∧ Kept G w w3 ∧ NewF w G G') := ⟨G', hP3, (k1.mono (by simp)).trans k3 (fun x hx => .inl hx), fun x hx => by
    rcases hG x hx with h | h
    · exact .inl h
    · exact .inr (hF1 x h)⟩
  have hNi : ((bs.length : Int) == 0) = false := by simp; intro h; subst h; simp at hbl
  clear hP hP1 hP3 k3 hG hO1 hO2 hF1 hF2 hrd hl c3
  generalize bs.length = N at hNi hup ⊢
  go_wp2
  go_ret
  exact ⟨rfl, Hf.out⟩
end
end Go.Proofs.Ytilelklcfgemoaa
