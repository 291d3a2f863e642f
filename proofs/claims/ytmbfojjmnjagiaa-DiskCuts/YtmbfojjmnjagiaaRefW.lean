/-
  The document's Write.
-/
import Derived.Test.YtmbfojjmnjagiaaRefR
import Derived.Test.YtmbfojjmnjagiaaBlock
namespace Go.Proofs.Ytmbfojjmnjagiaa
open Go.RowKit
set_option linter.unusedVariables false

theorem inf59 : (Try.prog.info? 59).map (fun i => (i.zero, i.size, i.bytes)) = some (some (.agg #[.int .i64 0, .string ⟨#[]⟩]), 2, 24) := by kernel_rfl

theorem fwrite_down {F : List Nat} {p : Nat} {s : St} {w : World} (hD : IsF w F p s) (i : Int) (v : Value) (hd : s.down = true) : Calls Try.prog 24 #[.pointer (some ⟨p, 0, none⟩), .int .i64 i, v] w fun e w' => e = .returned (.int .i64 9) ∧ w = w' := by
  obtain ⟨_, c3, f3⟩ := hD.cells
  rw [hd] at c3
  clear hD hd
  go_enter Try.func24, Try.ntmps24
  go_wp2
  go_ret
  exact ⟨rfl, rfl⟩

theorem fwrite_arg {F : List Nat} {p : Nat} {s : St} {w : World} (hD : IsF w F p s) (i : Int) (a : Option Addr) (n cap : Nat) (hd : s.down = false) (h : i < 0 ∨ (s.nb : Int) ≤ i ∨ n ≠ 256) : Calls Try.prog 24 #[.pointer (some ⟨p, 0, none⟩), .int .i64 i, .slice a n cap] w fun e w' => e = .returned (.int .i64 1) ∧ w = w' := by
  obtain ⟨vd, hF, hbox, _⟩ := hD
  obtain ⟨c0, c1, c2, c3⟩ := cells4 hbox
  rw [hd] at c3
  generalize s.nb = b at c0 h
  clear hd hbox c1 c2
  by_cases h0 : i < 0
  · go_enter Try.func24, Try.ntmps24
    go_wp2
    go_ret
    exact ⟨rfl, rfl⟩
  · by_cases h1 : (b : Int) ≤ i
    · go_enter Try.func24, Try.ntmps24
      go_wp2
      go_ret
      exact ⟨rfl, rfl⟩
    · have hne : ((n : Int) != 256) = true := by simp; omega
      have h2 : i < (b : Int) := by omega
      go_enter Try.func24, Try.ntmps24
      go_wp2
      go_ret
      exact ⟨rfl, rfl⟩

theorem fwrite_fuse {F : List Nat} {p : Nat} {s : St} {w : World} (hD : IsF w F p s) (k : Nat) (a : Option Addr) (cap : Nat) (hd : s.down = false) (hk : k < s.nb) (hf : s.fuse = 0) : Calls Try.prog 24 #[.pointer (some ⟨p, 0, none⟩), .int .i64 (k : Int), .slice a 256 cap] w fun e w' => e = .returned (.int .i64 9) ∧ IsF w' F p { s with down := true } ∧ Kept F w w' := by
  have hfin := hD.setDown true
  obtain ⟨vd, hF, hbox, _⟩ := hD
  obtain ⟨c0, c1, c2, c3⟩ := cells4 hbox
  have f3 := free4 hbox 3
  rw [hf] at c2
  rw [hd] at c3
  generalize s.nb = b at c0 hk hfin
  clear hd hf hbox c1 hF
  have h0 : ¬ (k : Int) < 0 := by omega
  have h1 : ¬ (b : Int) ≤ (k : Int) := by omega
  go_enter Try.func24, Try.ntmps24
  go_wp2
  go_ret
  exact ⟨rfl, hfin⟩

/-- What the append and its store leave. -/
theorem fin_f {F : List Nat} {p : Nat} {s : St} {w w1 w3 : World} {vd : Value} {g2 cap2 k : Nat} {l : List UInt8} (hF : F = p :: vd.ownBlock.toList) (hbox : w.heap[p]? = some (.cells #[.int .i64 (s.nb : Int), vd, .int .i64 s.fuse, .bool s.down] 52 (0, 0))) (hap : vd.ownBlock ≠ some p) (hok : s.ok) (hk : k < s.nb) (hl : l.length = 256) (h1 : Kept [] w w1)
    (hown3 : w3.ownsRow 0 59 2 (.slice (some ⟨g2, 0, none⟩) (s.ws.length + 1) cap2) (s.ws.length + 1) (refC s.ws ++ rcells (k, l))) (hgrow3 : w1.grownBy w3 vd.ownBlock) (hat3 : vd.ownBlock = some g2 ∨ g2 = w1.heap.size) :
    (w3.cell? ⟨p, 1, none⟩ = some vd ∧ w3.frozen? ⟨p, 1, none⟩ = false) ∧ ∃ F', IsF (w3.setCell ⟨p, 1, none⟩ (.slice (some ⟨g2, 0, none⟩) (s.ws.length + 1) cap2)) F' p { s with ws := s.ws ++ [(k, l)] } ∧ Kept F w (w3.setCell ⟨p, 1, none⟩ (.slice (some ⟨g2, 0, none⟩) (s.ws.length + 1) cap2)) ∧ NewF w F F' := by
  have hp := lt_of_block hbox
  have hs := h1.size
  have hne : g2 ≠ p := fun e => by
    rcases hat3 with h | h
    · exact hap (by rw [h, e])
    · omega
  have hb3 : w3.heap[p]? = some (.cells #[.int .i64 (s.nb : Int), vd, .int .i64 s.fuse, .bool s.down] 52 (0, 0)) := by
    rw [hgrow3.block p (by omega) (fun e => hap e.symm)]; exact h1.keeps hbox (by simp)
  have kF : Kept F w w3 := (h1.mono (by simp)).grown hgrow3 (fun k hk => .inl (by rw [hF]; simp [hk]))
  refine ⟨⟨(cells4 hb3).2.1, free4 hb3 1⟩, _, ⟨.slice (some ⟨g2, 0, none⟩) (s.ws.length + 1) cap2, rfl, ?_, ?_, by simpa [Value.ownBlock] using hne, ⟨hok.nb, hok.ws.snoc hk hl, hok.fuse, hok.top⟩⟩, kF.setCell (.inl (by rw [hF]; simp)) _, ?_⟩
  · rw [heap_setCell_same w3 p 1 _ 52 _ hb3]; rfl
  · show World.ownsRow _ 0 59 2 _ (s.ws ++ [(k, l)]).length (refC (s.ws ++ [(k, l)]))
    rw [refC_snoc, List.length_append]
    exact ownsRow_setCell_other hown3 (by simpa [Value.ownBlock] using hne) _
  · intro x hx
    simp only [Value.ownBlock, Option.toList_some, List.mem_cons, List.not_mem_nil, or_false] at hx
    rcases hx with rfl | rfl
    · exact .inl (by rw [hF]; simp)
    · rcases hat3 with h | h
      · exact .inl (by rw [hF]; simp [h])
      · exact .inr (by omega)

/-- What is held while a write is laid: of the world w1 in which the append begins. -/
theorem fin_all {F : List Nat} {p : Nat} {s : St} {w1 : World} {k : Nat} {l : List UInt8} (hD : IsF w1 F p s) (hk : k < s.nb) (hl : l.length = 256) : ∃ vd, w1.cell? ⟨p, 1, none⟩ = some vd ∧ w1.ownsRow 0 59 2 vd s.ws.length (refC s.ws) ∧
    (∀ w' w3 g2 cap2, Kept [] w1 w' → w3.ownsRow 0 59 2 (.slice (some ⟨g2, 0, none⟩) (s.ws.length + 1) cap2) (s.ws.length + 1) (refC s.ws ++ [.int .i64 (k : Int), .string ⟨l.toArray⟩]) → w'.grownBy w3 vd.ownBlock → (vd.ownBlock = some g2 ∨ g2 = w'.heap.size) →
    (w3.cell? ⟨p, 1, none⟩ = some vd ∧ w3.frozen? ⟨p, 1, none⟩ = false) ∧ ∃ F', IsF (w3.setCell ⟨p, 1, none⟩ (.slice (some ⟨g2, 0, none⟩) (s.ws.length + 1) cap2)) F' p { s with ws := s.ws ++ [(k, l)] } ∧ Kept F w1 (w3.setCell ⟨p, 1, none⟩ (.slice (some ⟨g2, 0, none⟩) (s.ws.length + 1) cap2)) ∧ NewF w1 F F') := by
  obtain ⟨vd, hF, hbox, hown, hap, hok⟩ := hD
  exact ⟨vd, (cells4 hbox).2.1, hown, fun w' w3 g2 cap2 => fin_f (F := F) (p := p) (s := s) (w := w1) (w1 := w') (w3 := w3) (vd := vd) (g2 := g2) (cap2 := cap2) (k := k) (l := l) hF hbox hap hok hk hl⟩

set_option maxRecDepth 100000 in
set_option maxHeartbeats 1000000 in
theorem fwrite_free {F : List Nat} {p : Nat} {s : St} {w : World} (hD : IsF w F p s) (k : Nat) (a : Option Addr) (cap : Nat) (l : List UInt8) (hd : s.down = false) (hk : k < s.nb) (hf : s.fuse < 0) (hl : Hid (l.length = 256)) (hr : Reads w (.slice a 256 cap) l) (hb : s.ws.length ≤ 1000) : Calls Try.prog 24 #[.pointer (some ⟨p, 0, none⟩), .int .i64 (k : Int), .slice a 256 cap] w fun e w' => e = .returned (.int .i64 0) ∧ ∃ F', IsF w' F' p { s with ws := s.ws ++ [(k, l)] } ∧ Kept F w w' ∧ NewF w F F' := by
  have hcv := str34 _ l w.drew hr
  obtain ⟨vd, c1, hown, HFin⟩ := fin_all hD hk hl.out
  have hpl := World.block_lt_of_cell? w _ c1
  replace HFin := (show Hid _ from HFin)
  obtain ⟨i0, hi0, hz0, hz1, hz2⟩ := info_parts inf59
  obtain ⟨c0, c2, c3⟩ : w.cell? ⟨p, 0, none⟩ = some (.int .i64 (s.nb : Int)) ∧ w.cell? ⟨p, 2, none⟩ = some (.int .i64 s.fuse) ∧ w.cell? ⟨p, 3, none⟩ = some (.bool s.down) := by
    obtain ⟨vd, hF, hbox, _⟩ := hD
    exact ⟨(cells4 hbox).1, (cells4 hbox).2.2⟩
  clear hD
  rw [hd] at c3
  generalize (⟨l.toArray⟩ : ByteArray) = S at hcv HFin
  have h0 : ¬ (k : Int) < 0 := by omega
  have h1 : ¬ (s.nb : Int) ≤ (k : Int) := by omega
  have hf0 : (s.fuse == 0) = false := by simp; omega
  have hf1 : ¬ 0 < s.fuse := by omega
  clear hd
  go_enter Try.func24, Try.ntmps24
  go_wp2_with fail
  go_region_law ((refine step_append_lies _ (by rfl) _ _ _ (by rfl) 0 59 i0 _ 2 24 Try.underlying50 hi0 hz0 hz1 hz2 rfl (by omega) vd s.ws.length (refC s.ws) (by rfl) ((hown.alloc _).drew) ⟨w.heap.size, 0, none⟩ 1 1 [_, _] (by rfl) (by rfl) (World.news_of_block (cs := #[_, _]) (t := 59) (fr := (0, 0)) (heap_alloc_new w _)) (by simp [Value.oneCell']) (by omega) (by unfold maxLen; omega) (by omega) (by omega) (w.heap.size + 1) (by simp) ?_; intro g2 cap2 w2 hown2 hgrow2 hat2 hgl2; obtain ⟨⟨hc2, hf2⟩, hfin⟩ := HFin.out _ w2 g2 cap2 ((Kept.refl [] w).alloc _).drew hown2 hgrow2 (by simpa using hat2)))
  all_goals
    clear hown2 hgrow2 hat2 hgl2
    go_wp2
    go_ret
    exact ⟨rfl, hfin⟩

set_option maxRecDepth 100000 in
set_option maxHeartbeats 1000000 in
theorem fwrite_burn {F : List Nat} {p : Nat} {s : St} {w : World} (hD : IsF w F p s) (k : Nat) (a : Option Addr) (cap : Nat) (l : List UInt8) (hd : s.down = false) (hk : k < s.nb) (hf : 0 < s.fuse) (hl : Hid (l.length = 256)) (hr : Reads w (.slice a 256 cap) l) (hv : ∀ g, (Value.slice a 256 cap).ownBlock = some g → g ∉ F) (hb : s.ws.length ≤ 1000) : Calls Try.prog 24 #[.pointer (some ⟨p, 0, none⟩), .int .i64 (k : Int), .slice a 256 cap] w fun e w' => e = .returned (.int .i64 0) ∧ ∃ F', IsF w' F' p { s with fuse := s.fuse - 1, ws := s.ws ++ [(k, l)] } ∧ Kept F w w' ∧ NewF w F F' := by
  have ht := hD.ok.top
  obtain ⟨hD1, hk1⟩ := hD.fuse (s.fuse - 1) (by omega) (by omega)
  obtain ⟨⟨-, f2⟩, -⟩ := hD.cells
  have hcv := str34 _ l (w.setCell ⟨p, 2, none⟩ (.int .i64 (s.fuse - 1))).drew (hr.kept hk1.drew hv)
  obtain ⟨vd, c1, hown, HFin⟩ := fin_all hD1 hk hl.out
  have hpl := World.block_lt_of_cell? _ _ c1
  replace HFin := (show Hid _ from HFin)
  obtain ⟨i0, hi0, hz0, hz1, hz2⟩ := info_parts inf59
  obtain ⟨c0, c2, c3⟩ : w.cell? ⟨p, 0, none⟩ = some (.int .i64 (s.nb : Int)) ∧ w.cell? ⟨p, 2, none⟩ = some (.int .i64 s.fuse) ∧ w.cell? ⟨p, 3, none⟩ = some (.bool s.down) := by
    obtain ⟨vd, hF, hbox, _⟩ := hD
    exact ⟨(cells4 hbox).1, (cells4 hbox).2.2⟩
  have hsz : (w.setCell ⟨p, 2, none⟩ (.int .i64 (s.fuse - 1))).heap.size = w.heap.size := by simp
  have HSZ : Hid ((w.setCell ⟨p, 2, none⟩ (.int .i64 (s.fuse - 1))).heap.size = w.heap.size) := hsz
  clear hD hD1 hr hv hsz
  rw [hd] at c3
  generalize (⟨l.toArray⟩ : ByteArray) = S at hcv HFin
  have h0 : ¬ (k : Int) < 0 := by omega
  have h1 : ¬ (s.nb : Int) ≤ (k : Int) := by omega
  have hf0 : (s.fuse == 0) = false := by simp; omega
  clear hd
  go_enter Try.func24, Try.ntmps24
  go_wp2_with fail
  generalize w.setCell ⟨p, 2, none⟩ (.int .i64 (s.fuse - 1)) = w1 at hk1 hcv c1 hown HFin HSZ hpl
  clear c0 c2 c3 f2
  go_region_law ((refine step_append_lies _ (by rfl) _ _ _ (by rfl) 0 59 i0 _ 2 24 Try.underlying50 hi0 hz0 hz1 hz2 rfl (by omega) vd s.ws.length (refC s.ws) (by rfl) ((hown.alloc _).drew) ⟨w1.heap.size, 0, none⟩ 1 1 [_, _] (by rfl) (by rfl) (World.news_of_block (cs := #[_, _]) (t := 59) (fr := (0, 0)) (heap_alloc_new w1 _)) (by simp [Value.oneCell']) (by omega) (by unfold maxLen; omega) (by omega) (by omega) (w1.heap.size + 1) (by simp) ?_; intro g2 cap2 w2 hown2 hgrow2 hat2 hgl2; obtain ⟨⟨hc2, hf2⟩, hfin⟩ := HFin.out _ w2 g2 cap2 ((Kept.refl [] w1).alloc _).drew hown2 hgrow2 (by simpa using hat2)))
  all_goals
    clear hown2 hgrow2 hat2 hgl2
    obtain ⟨F', a1, a2, a3⟩ := hfin
    have hfin : Hid (∃ F', IsF _ F' p { s with fuse := s.fuse - 1, ws := s.ws ++ [(k, l)] } ∧ Kept F w _ ∧ NewF w F F') := ⟨F', a1, hk1.trans a2 (fun x hx => .inl hx), fun x hx => by rcases a3 x hx with h | h; exact .inl h; exact .inr (by rw [HSZ.out] at h; exact h)⟩
    clear a1 a2 a3
    go_wp2
    go_ret
    exact ⟨rfl, hfin.out⟩

/-- The document's Write. -/
theorem fwrite_any {F : List Nat} {p : Nat} {s : St} {w : World} (hD : IsF w F p s) (i : Int) (v : Value) (l : List UInt8) (hr : Reads w v l) (hv : ∀ g, v.ownBlock = some g → g ∉ F) (hb : s.ws.length ≤ 1000) :
    Calls Try.prog 24 #[.pointer (some ⟨p, 0, none⟩), .int .i64 i, v] w fun e w' => e = .returned (.int .i64 (wrE s i l.length)) ∧ ∃ F', IsF w' F' p (wrS s i l) ∧ Kept F w w' ∧ NewF w F F' := by
  have hr' := hr
  obtain ⟨a, cap, rfl, _, _, _, _⟩ := hr
  unfold wrE wrS
  by_cases hd : s.down = true
  · rw [if_pos hd, if_pos hd]
    exact (fwrite_down hD i _ hd).mono fun e w' ⟨he, hw⟩ => ⟨he, F, hw ▸ hD, hw ▸ Kept.refl F w, NewF.refl w F⟩
  have hd' : s.down = false := by simpa using hd
  rw [if_neg hd, if_neg hd]
  by_cases h : i < 0 ∨ (s.nb : Int) ≤ i ∨ l.length ≠ 256
  · rw [if_pos h, if_pos h]
    exact (fwrite_arg hD i a _ cap hd' h).mono fun e w' ⟨he, hw⟩ => ⟨he, F, hw ▸ hD, hw ▸ Kept.refl F w, NewF.refl w F⟩
  rw [if_neg h, if_neg h]
  obtain ⟨k, rfl⟩ := Int.eq_ofNat_of_zero_le (show 0 ≤ i by omega)
  have hl : l.length = 256 := by omega
  have hk : k < s.nb := by omega
  rw [hl] at hr' ⊢
  rw [hl] at hv
  by_cases hf : s.fuse = 0
  · rw [if_pos hf, if_pos hf]
    exact (fwrite_fuse hD k a cap hd' hk hf).mono fun e w' ⟨he, h1, h2⟩ => ⟨he, F, h1, h2, NewF.refl w F⟩
  rw [if_neg hf, if_neg hf]
  by_cases hp : 0 < s.fuse
  · rw [if_pos hp]
    exact fwrite_burn hD k a cap l hd' hk hp hl hr' hv hb
  · rw [if_neg hp]
    exact fwrite_free hD k a cap l hd' hk (by omega) hl hr' hb

end Go.Proofs.Ytmbfojjmnjagiaa
