/-
  same, room and wrong.
-/
import Derived.Test.YtdcjaopmfccgbaaLaw
import Derived.Test.YtdcjaopmfccgbaaNilTwo
import Derived.BigQuiet
namespace Go.Proofs.Ytdcjaopmfccgbaa
open Go.RowKit
set_option linter.unusedVariables false

theorem ReadsT.at {w : World} {v : Value} {us : List (List UInt8)} (h : ReadsT w v us) (k : Nat) (l : List UInt8) (hl : us[k]? = some l) : ∃ b o c, v = .slice (some ⟨b, o, none⟩) us.length c ∧ us.length ≤ c ∧ c ≤ 9223372036854775807 ∧ w.cell? ⟨b, o + k, none⟩ = some (.string ⟨l.toArray⟩) := by
  obtain ⟨a, cap, rfl, h2, h3, h4, h5⟩ := h
  obtain ⟨b, o, rfl, hc⟩ := h5 (by intro e; subst e; simp at hl)
  exact ⟨b, o, cap, rfl, h2, h3, hc k l hl⟩
set_option maxRecDepth 100000 in
set_option maxHeartbeats 400000 in
theorem same_yes {w0 w : World} {g : Nat} {us : List (List UInt8)} {vb : Value} (hU : UR w0 w g us us.length) (hT : ReadsT w vb us) (hn : us.length ≤ 65536) :
    Calls Try.prog 18 #[.slice (some ⟨g, 0, none⟩) us.length us.length, vb] w fun e w' => e = .returned (.bool true) ∧ Kept [] w w' := by
  obtain ⟨n, hnn⟩ : ∃ n, Hid (us.length = n) := ⟨_, rfl⟩
  obtain ⟨ab, cb, rfl, -⟩ := id hT
  have HU := Hid.mk hU
  have HT := Hid.mk hT
  rw [hnn.out] at hn ⊢
  clear hU hT
  go_enter Try.func18, Try.ntmps18
  go_wp2_with fail
  go_loopw [13] (fun i wr => ∃ j : Nat, i = .int .i64 (j : Int) ∧ j ≤ n ∧ Kept [] w wr) (fun i _ => n - (intOf i).toNat)
  case atStart => exact ⟨0, rfl, Nat.zero_le _, Kept.refl [] w⟩
  case round =>
    obtain ⟨j, rfl, hj, hK⟩ := hrel
    by_cases hlt : j < n
    · have hlt2 : (j : Int) < (n : Int) := by omega
      obtain ⟨l, hl⟩ : ∃ l, us[j]? = some l := ⟨us[j]'(by rw [hnn.out]; exact hlt), by simp⟩
      obtain ⟨a1, c1, hc1, hO1, -, -⟩ := (HU.out.kept hK).at j l hl
      obtain ⟨b2, o2, c2, hv2, hc2a, hc2b, hc2⟩ := (HT.out.kept hK (by simp)).at j l hl
      injection hv2 with e1 e2 e3
      subst e1 e3
      clear e2
      have hs := str35 _ _ wr hO1.reads
      have hsd := str35 _ _ wr.drew (hO1.kept (Kept.refl [] wr).drew (by simp)).reads
      rw [hnn.out] at hc2a
      generalize (⟨l.toArray⟩ : ByteArray) = s at hs hsd hc2
      generalize l.length = m at hc1 hs hsd hO1
      clear hO1
      have HK := Hid.mk hK
      clear hK
      go_wp2_with fail
      go_region
      all_goals
        go_wp2
        exact ⟨⟨j + 1, by go_num, by omega, HK.out.drew⟩, by simp [intOf]; omega⟩
    · have hlt2 : ¬ (j : Int) < (n : Int) := by omega
      go_wp2
      go_ret
      exact ⟨rfl, hK⟩

/-- What lies in a log as the document has it, at block r; the blocks that are its own are M. -/
def IsM (w : World) (M : List Nat) (r : Nat) (us : List (List UInt8)) (ct ep : Nat) : Prop :=
  ∃ v, M = r :: v.ownBlock.toList ∧ w.heap[r]? = some (.cells #[v, .int .i64 (ct : Int), .int .u64 (ep : Int)] 30 (0, 0)) ∧ OwnsT w v us ∧ v.ownBlock ≠ some r
section
variable {w w' : World} {M S : List Nat} {r : Nat} {us : List (List UInt8)} {ct ep : Nat}
theorem IsM.kept (h : IsM w M r us ct ep) (k : Kept S w w') (hn : ∀ x ∈ M, x ∉ S) : IsM w' M r us ct ep := by
  obtain ⟨v, rfl, h1, h2, h3⟩ := h
  exact ⟨v, rfl, k.keeps h1 (hn r (by simp)), h2.kept k (fun g hg => hn g (by simp [hg])), h3⟩
theorem IsM.lt (h : IsM w M r us ct ep) : ∀ x ∈ M, x < w.heap.size := by
  obtain ⟨v, rfl, h1, h2, h3⟩ := h
  intro x hx
  simp only [List.mem_cons, Option.mem_toList] at hx
  rcases hx with rfl | hx
  · exact lt_of_block h1
  · exact h2.lt hx
theorem IsM.cells (h : IsM w M r us ct ep) : ∃ a c, w.cell? ⟨r, 0, none⟩ = some (.slice a us.length c) ∧ ReadsT w (.slice a us.length c) us ∧ w.cell? ⟨r, 1, none⟩ = some (.int .i64 (ct : Int)) ∧ w.cell? ⟨r, 2, none⟩ = some (.int .u64 (ep : Int)) := by
  obtain ⟨v, rfl, h1, h2, h3⟩ := h
  obtain ⟨a, c, rfl⟩ := h2.form
  exact ⟨a, c, by simp [World.cell?, h1], h2.reads, by simp [World.cell?, h1], by simp [World.cell?, h1]⟩
theorem IsM.free (h : IsM w M r us ct ep) (j : Nat) : w.frozen? ⟨r, j, none⟩ = false := by
  obtain ⟨v, rfl, h1, h2, h3⟩ := h
  simp [World.frozen?, h1]
theorem IsM.new (w : World) (ct ep : Nat) : IsM (w.alloc (.cells #[.slice none 0 0, .int .i64 (ct : Int), .int .u64 (ep : Int)] 30)) [w.heap.size] w.heap.size [] ct ep :=
  ⟨.slice none 0 0, rfl, heap_alloc_new w _, OwnsT.nil _, by simp [Value.ownBlock]⟩
theorem IsM.reset (h : IsM w M r us ct ep) (e : Nat) : IsM ((w.setCell ⟨r, 0, none⟩ (.slice none 0 0)).setCell ⟨r, 2, none⟩ (.int .u64 (e : Int))) [r] r [] ct e ∧ Kept [r] w ((w.setCell ⟨r, 0, none⟩ (.slice none 0 0)).setCell ⟨r, 2, none⟩ (.int .u64 (e : Int))) := by
  obtain ⟨v, rfl, h1, h2, h3⟩ := h
  exact ⟨⟨.slice none 0 0, rfl, by rw [heap_setCell_same _ r 2 _ 30 _ (heap_setCell_same w r 0 _ 30 _ h1)]; rfl, OwnsT.nil _, by simp [Value.ownBlock]⟩, ((Kept.refl [r] w).setCell (.inl (by simp)) _).setCell (.inl (by simp)) _⟩
set_option maxRecDepth 100000 in
set_option maxHeartbeats 400000 in
theorem mroom_any (h : IsM w M r us ct ep) (hn : us.length ≤ 65536) (hl : ∀ l ∈ us, l.length ≤ 60000) (hct : ct ≤ 65536) (ht : tot us ≤ ct) : Calls Try.prog 21 #[.pointer (some ⟨r, 0, none⟩)] w fun e w' => e = .returned (.int .i64 ((ct : Int) - (tot us : Int))) ∧ w = w' := by
  obtain ⟨a, c, c0, hT, c1, c2⟩ := h.cells
  clear h
  obtain ⟨n, hnn⟩ : ∃ n, Hid (us.length = n) := ⟨_, rfl⟩
  have HT := Hid.mk hT
  clear hT
  rw [hnn.out] at c0 hn
  go_enter Try.func21, Try.ntmps21
  go_wp2_with fail
  go_loopw [3, 14] (fun x i wr => ∃ j : Nat, i = .int .i64 (j : Int) ∧ j ≤ n ∧ x = .int .i64 ((ct : Int) - (tot (us.take j) : Int)) ∧ wr = w) (fun _ i _ => n - (intOf i).toNat)
  case atStart => exact ⟨0, rfl, Nat.zero_le _, by simp [tot], rfl⟩
  case round =>
    obtain ⟨j, rfl, hj, rfl, rfl⟩ := hrel
    by_cases hlt : j < n
    · have hlt2 : (j : Int) < (n : Int) := by omega
      obtain ⟨l, hl'⟩ : ∃ l, us[j]? = some l := ⟨us[j]'(by rw [hnn.out]; exact hlt), by simp⟩
      obtain ⟨b2, o2, c2', hv2, hc2a, hc2b, hc2⟩ := HT.out.at j l hl'
      injection hv2 with e1 e2 e3
      subst e1 e3
      clear e2
      rw [hnn.out] at hc2a
      have hll := hl l (List.mem_of_getElem? hl')
      have hub := ub_any l.length (by omega) wr
      have hsz : (⟨l.toArray⟩ : ByteArray).size = l.length := by simp [ByteArray.size]
      have htk := tot_take_le us (j + 1)
      have hts : tot (us.take (j + 1)) = tot (us.take j) + bks l.length := by rw [← take_snoc_unit hl', tot_snoc]
      have HTS := Hid.mk hts
      rw [hts] at htk
      generalize tot (us.take j) = T at HTS htk
      generalize bks l.length = B at HTS htk hub
      generalize (⟨l.toArray⟩ : ByteArray) = s at hc2 hsz
      rw [← hsz] at hub
      clear hts hsz hll hl'
      go_wp2_with fail
      refine hub.mono ?_
      rintro e w1 ⟨rfl, rfl⟩
      clear hub
      go_wp2
      exact ⟨⟨j + 1, by go_num, by omega, by rw [HTS.out]; congr 1; omega, by first | rfl | trivial⟩, by simp [intOf]; omega⟩
    · have hlt2 : ¬ (j : Int) < (n : Int) := by omega
      rw [List.take_of_length_le (by rw [hnn.out]; omega)]
      obtain ⟨T, hTT⟩ : ∃ T, Hid (tot us = T) := ⟨_, rfl⟩
      rw [hTT.out]
      go_wp2
      go_ret
      exact ⟨by rw [hTT.out]; rfl, rfl⟩
/-- What an Append should answer. -/
def wrongE (us : List (List UInt8)) (ct n : Nat) : Int := if n = 0 then 1 else if ct < tot us + bks n then 6 else 0
set_option maxRecDepth 100000 in
theorem wrong_any (h : IsM w M r us ct ep) (hn : us.length ≤ 65536) (hl : ∀ l ∈ us, l.length ≤ 60000) (hct : ct ≤ 65536) (ht : tot us ≤ ct) (a : Option Addr) (n c : Nat) (hnb : n ≤ 60000) : Calls Try.prog 12 #[.pointer (some ⟨r, 0, none⟩), .slice a n c] w fun e w' => e = .returned (.int .i64 (wrongE us ct n)) ∧ w = w' := by
  have hro := mroom_any h hn hl hct ht
  have hub := ub_any n (by omega) w
  unfold wrongE
  clear h hl
  by_cases h0 : n = 0
  · subst h0
    rw [if_pos rfl]
    go_enter Try.func12, Try.ntmps12
    go_wp2
    go_ret
    exact ⟨rfl, rfl⟩
  · rw [if_neg h0]
    have h01 : ((n : Int) == 0) = false := by simp; omega
    by_cases hf : ct < tot us + bks n
    · rw [if_pos hf]
      have hf2 : (ct : Int) - (tot us : Int) < (bks n : Int) := by omega
      generalize bks n = B at hub hf hf2
      generalize tot us = T at hro hf hf2 ht
      go_enter Try.func12, Try.ntmps12
      go_wp2_with fail
      refine hub.mono ?_
      rintro e w1 ⟨rfl, rfl⟩
      go_wp2_with fail
      refine hro.mono ?_
      rintro e w1 ⟨rfl, rfl⟩
      go_wp2
      go_ret
      exact ⟨rfl, rfl⟩
    · rw [if_neg hf]
      have hf2 : ¬ (ct : Int) - (tot us : Int) < (bks n : Int) := by omega
      generalize bks n = B at hub hf hf2
      generalize tot us = T at hro hf hf2 ht
      go_enter Try.func12, Try.ntmps12
      go_wp2_with fail
      refine hub.mono ?_
      rintro e w1 ⟨rfl, rfl⟩
      go_wp2_with fail
      refine hro.mono ?_
      rintro e w1 ⟨rfl, rfl⟩
      go_wp2
      go_ret
      exact ⟨rfl, rfl⟩
end
end Go.Proofs.Ytdcjaopmfccgbaa
