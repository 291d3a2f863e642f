/-
  Get, Drop, Blocks.
-/
import Derived.Test.YtilelklcfgemoaaPu
import Derived.Test.YtilelklcfgemoaaRd2
namespace Go.Proofs.Ytilelklcfgemoaa
open Go.RowKit
set_option linter.unusedVariables false

set_option maxRecDepth 100000 in
theorem get_nil (k : Int) (w : World) : Calls Try.prog 24 #[.pointer none, .int .i64 k] w fun e w' => e = .returned (.tuple #[.slice none 0 0, .int .i64 1]) ∧ w = w' := by
  go_enter Try.func24, Try.ntmps24
  go_wp2
  go_ret2
  exact ⟨rfl, rfl⟩
set_option maxRecDepth 100000 in
theorem drop_nil' (k : Int) (w : World) : Calls Try.prog 17 #[.pointer none, .int .i64 k] w fun e w' => e = .returned (.int .i64 1) ∧ w = w' := by
  go_enter Try.func17, Try.ntmps17
  go_wp2
  go_ret
  exact ⟨rfl, rfl⟩
set_option maxRecDepth 100000 in
theorem blocks_nilP (k : Int) (w : World) : Calls Try.prog 22 #[.pointer none, .int .i64 k] w fun e w' => e = .returned (.slice none 0 0) ∧ w = w' := by
  go_enter Try.func22, Try.ntmps22
  go_wp2
  go_ret
  exact ⟨rfl, rfl⟩
section
variable {w : World} {F G : List Nat} {p q fr ct : Nat} {T : List (Nat × List Nat)} {fl : List Nat} {s : St}
theorem IsP.noKey {M : List Tx} (hT : T = M.map (fun x => (x.1, x.2.1))) {k : Int} (h : ∀ x ∈ T, (x.1 : Int) ≠ k) : k ∉ (M.map entry).map (·.1) := by
  rw [keys_map]
  intro hm
  obtain ⟨y, hy, he⟩ := List.mem_map.1 hm
  exact h (y.1, y.2.1) (by rw [hT]; exact List.mem_map.2 ⟨y, hy, rfl⟩) he
set_option maxRecDepth 100000 in
theorem get_none (hP : IsP w G p q fr ct T fl) (k : Int) (hw : (Lit.int .i64 k).wf = true) (hk : ∀ x ∈ T, (x.1 : Int) ≠ k) : Calls Try.prog 24 #[.pointer (some ⟨p, 0, none⟩), .int .i64 k] w fun e w' => e = .returned (.tuple #[.slice none 0 0, .int .i64 5]) ∧ w = w' := by
  obtain ⟨mb, M, c3, hM, hT, -, -⟩ := hP.map
  have hl := hM.look_none hw (IsP.noKey hT hk)
  clear hP hM
  go_enter Try.func24, Try.ntmps24
  go_wp2
  go_ret2
  exact ⟨rfl, rfl⟩
set_option maxRecDepth 100000 in
theorem drop_none (hP : IsP w G p q fr ct T fl) (k : Int) (hw : (Lit.int .i64 k).wf = true) (hk : ∀ x ∈ T, (x.1 : Int) ≠ k) : Calls Try.prog 17 #[.pointer (some ⟨p, 0, none⟩), .int .i64 k] w fun e w' => e = .returned (.int .i64 5) ∧ w = w' := by
  obtain ⟨mb, M, c3, hM, hT, -, -⟩ := hP.map
  have hl := hM.look_none hw (IsP.noKey hT hk)
  clear hP hM
  go_enter Try.func17, Try.ntmps17
  go_wp2
  go_ret
  exact ⟨rfl, rfl⟩
theorem IsP.at {M : List Tx} (hT : T = M.map (fun x => (x.1, x.2.1))) {nm : Nat} {bs : List Nat} (h : (nm, bs) ∈ T) : ∃ v, (nm, bs, v) ∈ M ∧ ((nm : Int), v) ∈ M.map entry := by
  rw [hT] at h
  obtain ⟨⟨x1, x2, x3⟩, hx, he⟩ := List.mem_map.1 h
  simp at he
  obtain ⟨rfl, rfl⟩ := he
  exact ⟨x3, hx, List.mem_map.2 ⟨_, hx, rfl⟩⟩
set_option maxRecDepth 100000 in
set_option maxHeartbeats 400000 in
theorem get_ok (hD : IsD w F q s) (hP : IsP w G p q fr ct T fl) (hd : s.down = false) (ha : fr + ct ≤ s.nb) (nm : Nat) (bs : List Nat) (l : List UInt8) (hT : (nm, bs) ∈ T) (hL : Lies (blk s.ws) nm bs l) (hin : ∀ x ∈ bs, fr ≤ x ∧ x < fr + ct) :
    Calls Try.prog 24 #[.pointer (some ⟨p, 0, none⟩), .int .i64 (nm : Int)] w fun e w' => ∃ v, e = .returned (.tuple #[v, .int .i64 0]) ∧ Owns 5 w' v l ∧ Kept [] w w' ∧ Fresh w v := by
  obtain ⟨mb, M, c3, hM, hTM, hR, -⟩ := hP.map
  obtain ⟨v, hvM, hvm⟩ := IsP.at hTM hT
  have hl := hM.look hvm
  have hrd := rd_yes hD hP hd ha nm bs l hL hin
  have hbl : 0 < bs.length := by rw [hL.len]; exact bks_pos _
  clear hP hM hD hR
  obtain ⟨N, hN⟩ : ∃ N, Hid (bs.length = N) := ⟨_, rfl⟩
  go_enter Try.func24, Try.ntmps24
  go_wp2_with fail
  refine hrd.mono ?_
  rintro e w1 ⟨v1, v2, rfl, hO1, hO2, k1, hF1, hF2⟩
  obtain ⟨a1, c1, rfl, -⟩ := hO1.form
  have hNi : ((N : Int) == 0) = false := by have := hN.out; simp; omega
  rw [hN.out]
  have hf := Hid.mk (And.intro hO2 (And.intro k1 hF2))
  clear hO1 hO2 k1 hF1 hF2 hrd hl
  go_wp2
  go_ret2
  exact ⟨_, rfl, hf.out⟩
set_option maxRecDepth 100000 in
set_option maxHeartbeats 400000 in
theorem blocks_ok (hP : IsP w G p q fr ct T fl) (nm : Nat) (bs : List Nat) (hT : (nm, bs) ∈ T) (hb : bs.length ≤ 65536) :
    Calls Try.prog 22 #[.pointer (some ⟨p, 0, none⟩), .int .i64 (nm : Int)] w fun e w' => ∃ v, e = .returned v ∧ FrS w' v bs ∧ Kept [] w w' ∧ Fresh w v := by
  obtain ⟨mb, M, c3, hM, hTM, hR, -⟩ := hP.map
  obtain ⟨v, hvM, hvm⟩ := IsP.at hTM hT
  have hl := hM.get hvm
  have hcl := clone_ints v bs (hR _ hvM) (by omega)
  clear hP hM hR
  go_enter Try.func22, Try.ntmps22
  go_wp2_with fail
  refine hcl.mono ?_
  rintro e w1 ⟨v1, rfl, hF1, k1, hFr⟩
  go_wp2
  go_ret
  exact ⟨_, rfl, hF1, k1, hFr⟩
end
set_option maxRecDepth 4000 in
/-- One text less: its blocks come behind the free ones. -/
theorem IsP.drop {w : World} {G : List Nat} {p q fr ct : Nat} {T : List (Nat × List Nat)} {fl : List Nat} (h : IsP w G p q fr ct T fl) (nm : Nat) (bs : List Nat) (hm : (nm, bs) ∈ T) (hb : fl.length + bs.length ≤ 100000) (ty : TypeId) :
    ∃ v vf mb w2 ad c w3 G', w.cell? ⟨p, 3, none⟩ = some (.map (some mb)) ∧ (Instr.lookup 60 (.map (some mb)) (.int .i64 (nm : Int)) true).run Try.prog w = .ok (.tuple #[v, .bool true]) w ∧ (Builtin.delete_ #[60, 3] ty #[.map (some mb), .int .i64 (nm : Int)]).run Try.prog w = .ok (.tuple #[]) w2 ∧ w2.cell? ⟨p, 3, none⟩ = some (.map (some mb)) ∧
      w2.cell? ⟨p, 4, none⟩ = some vf ∧ (Builtin.append_ #[36, 36] 36 #[vf, v]).run Try.prog w2 = .ok (.slice ad (fl.length + bs.length) c) w3 ∧ w3.cell? ⟨p, 4, none⟩ = some vf ∧ w3.frozen? ⟨p, 4, none⟩ = false ∧
      IsP (w3.setCell ⟨p, 4, none⟩ (.slice ad (fl.length + bs.length) c)) G' p q fr ct (T.filter fun x => x.1 != nm) (fl ++ bs) ∧ Kept G w (w3.setCell ⟨p, 4, none⟩ (.slice ad (fl.length + bs.length) c)) ∧ NewF w G G' := by
  obtain ⟨mb, vf, M, rfl, h1, h2, h3, h4, h5, h6, h7, h8⟩ := h
  obtain ⟨v, hvM, hvm⟩ := IsP.at h3 hm
  obtain ⟨w2, hdel, hM2, k2⟩ := h2.del hvm ty
  have h12 := k2.keeps h1 (by simp; omega)
  have hF2 := h5.kept k2 (fun g hg => by simp; rintro rfl; exact h8 hg)
  have hv2 : ReadsI w2 v bs := (h4 _ hvM).1.kept k2 (fun g hg => by simp; exact ((h4 _ hvM).2 g hg).2.2.1)
  obtain ⟨ad, c, w3, hrun, hF3, k3, hN3⟩ := hF2.append hv2 (by omega)
  have h13 := k3.keeps h12 (by rw [Option.mem_toList]; exact h7)
  have k4 : Kept [p] w3 (w3.setCell ⟨p, 4, none⟩ (.slice ad (fl.length + bs.length) c)) := (Kept.refl [p] w3).setCell (.inl (by simp)) _
  have kk : Kept (p :: mb :: vf.ownBlock.toList) w (w3.setCell ⟨p, 4, none⟩ (.slice ad (fl.length + bs.length) c)) := ((k2.mono (fun x hx => .inl (by simp at hx; simp [hx]))).trans k3 (fun x hx => .inl (by simp [hx]))).trans k4 (fun x hx => .inl (by simp at hx; simp [hx]))
  have hne : ∀ g, g < w.heap.size → vf.ownBlock ≠ some g → (Value.slice ad (fl.length + bs.length) c).ownBlock ≠ some g := fun g hl hn he => by
    rcases hN3 g he with h | h
    · exact hn h
    · have := k2.size; omega
  have hpl := lt_of_block h1
  refine ⟨v, vf, mb, w2, ad, c, w3, p :: mb :: ((Value.slice ad (fl.length + bs.length) c).ownBlock.toList ++ obs ((M.filter fun x => x.1 != nm).map (·.2.2))), by simp [World.cell?, h1], h2.look hvm, hdel, by simp [World.cell?, h12], by simp [World.cell?, h12], hrun, by simp [World.cell?, h13], by simp [World.frozen?, h13], ⟨mb, _, M.filter fun x => x.1 != nm, rfl, ?_, ?_, ?_, ?_, ?_, h6, hne p hpl h7, hne mb h2.lt h8⟩, kk.mono (fun x hx => .inl ?_), ?_⟩
  · rw [heap_setCell_same w3 p 4 _ 62 _ h13]; rfl
  · have : (M.filter fun x => x.1 != nm).map entry = (M.map entry).filter fun x => x.1 != (nm : Int) := by
      rw [List.filter_map]
      congr 1
      apply List.filter_congr
      intro x _
      simp only [entry, bne, Function.comp]
      congr 1
      rw [Bool.eq_iff_iff]
      simp
      omega
    rw [this]
    exact (hM2.kept k3 (by rw [Option.mem_toList]; exact h8)).kept k4 (by simp; omega)
  · rw [h3, List.filter_map]
    rfl
  · intro x hx
    have hx' := (List.mem_filter.1 hx).1
    have h4x := h4 x hx'
    refine ⟨h4x.1.kept kk (fun g hg => ?_), fun g hg => ?_⟩
    · have := h4x.2 g hg
      simp only [List.mem_cons, Option.mem_toList, not_or]
      exact ⟨this.2.1, this.2.2.1, this.2.2.2⟩
    · have := h4x.2 g hg
      exact ⟨Nat.lt_of_lt_of_le this.1 kk.size, this.2.1, this.2.2.1, hne g this.1 this.2.2.2⟩
  · exact hF3.kept k4 (fun g hg => by simp; rintro rfl; exact hne _ hpl h7 hg)
  · simp only [List.mem_cons, List.mem_append] at hx ⊢
    rcases hx with h | h | h
    · exact .inl h
    · exact .inr (.inl h)
    · exact .inr (.inr (.inl h))
  · intro x hx
    simp only [List.mem_cons, List.mem_append, Option.mem_toList, mem_obs, List.mem_map] at hx ⊢
    rcases hx with rfl | rfl | hx | ⟨y, ⟨z, hz, rfl⟩, hy⟩
    · exact .inl (.inl rfl)
    · exact .inl (.inr (.inl rfl))
    · rcases hN3 x hx with h | h
      · exact .inl (.inr (.inr (.inl h)))
      · exact .inr (Nat.le_trans k2.size h)
    · exact .inl (.inr (.inr (.inr ⟨_, ⟨z, (List.mem_filter.1 hz).1, rfl⟩, hy⟩)))
set_option maxRecDepth 100000 in
set_option maxHeartbeats 400000 in
theorem drop_ok {w : World} {G : List Nat} {p q fr ct : Nat} {T : List (Nat × List Nat)} {fl : List Nat} (hP : IsP w G p q fr ct T fl) (nm : Nat) (bs : List Nat) (hm : (nm, bs) ∈ T) (hb : fl.length + bs.length ≤ 100000) :
    Calls Try.prog 17 #[.pointer (some ⟨p, 0, none⟩), .int .i64 (nm : Int)] w fun e w' => e = .returned (.int .i64 0) ∧ ∃ G', IsP w' G' p q fr ct (T.filter fun x => x.1 != nm) (fl ++ bs) ∧ Kept G w w' ∧ NewF w G G' := by
  obtain ⟨v, vf, mb, w2, ad, c, w3, G', c3, hlook, hdel, c32, c4, hrun, c43, f43, hP3, hK, hN⟩ := hP.drop nm bs hm hb 0
  have hf := Hid.mk (And.intro hP3 (And.intro hK hN))
  clear hP hP3 hK hN
  generalize fl.length + bs.length = n at hrun hf
  go_enter Try.func17, Try.ntmps17
  go_wp2_with (at_builtin; refine wpList_append_run 36 (.tmp 29) (.tmp 30) rfl rfl _ _ rfl rfl _ _ hrun ?_)
  go_ret
  exact ⟨rfl, _, hf.out⟩
end Go.Proofs.Ytilelklcfgemoaa
