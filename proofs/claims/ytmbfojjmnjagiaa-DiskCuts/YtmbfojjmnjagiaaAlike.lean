/-
  The program's disk and the document's side by side; alike.
-/
import Derived.Test.YtmbfojjmnjagiaaRefW
namespace Go.Proofs.Ytmbfojjmnjagiaa
open Go.RowKit
set_option linter.unusedVariables false

/-- Both are the disk s; their blocks are H. -/
def Two (w : World) (H : List Nat) (p q : Nat) (s : St) : Prop := ∃ F G, H = F ++ G ∧ IsD w F p s ∧ IsF w G q s ∧ ∀ x ∈ F, x ∉ G

theorem Two.kept {S : List Nat} {w w' : World} {H : List Nat} {p q : Nat} {s : St} (h : Two w H p q s) (k : Kept S w w') (hn : ∀ x ∈ H, x ∉ S) : Two w' H p q s := by
  obtain ⟨F, G, rfl, h1, h2, h3⟩ := h
  exact ⟨F, G, rfl, h1.kept k (fun x hx => hn x (by simp [hx])), h2.kept k (fun x hx => hn x (by simp [hx])), h3⟩
theorem Two.lt {w : World} {H : List Nat} {p q : Nat} {s : St} (h : Two w H p q s) : ∀ x ∈ H, x < w.heap.size := by
  obtain ⟨F, G, rfl, h1, h2, h3⟩ := h
  intro x hx
  rcases List.mem_append.1 hx with hx | hx
  · exact h1.lt x hx
  · exact h2.lt x hx
theorem Two.ok {w : World} {H : List Nat} {p q : Nat} {s : St} (h : Two w H p q s) : s.ok := by obtain ⟨F, G, rfl, h1, h2, h3⟩ := h; exact h1.ok

/-- Read of both, told as texts. -/
theorem reads_both {w : World} {H : List Nat} {p q : Nat} {s : St} (h : Two w H p q s) (hb : s.ws.length ≤ 1000) (i : Int) :
    Calls Try.prog 16 #[.pointer (some ⟨p, 0, none⟩), .int .i64 i] w fun e w' => ∃ v, e = .returned (.tuple #[v, .int .i64 (rdE s i)]) ∧ Kept [] w w' ∧ Calls Try.prog 25 #[.pointer (some ⟨q, 0, none⟩), .int .i64 i] w' fun e' w'' => ∃ v', e' = .returned (.tuple #[v', .int .i64 (rdE s i)]) ∧ (convert 34 9 v).run Try.prog w'' = .ok (.string ⟨(rdL s i).toArray⟩) w'' ∧ (convert 34 9 v').run Try.prog w'' = .ok (.string ⟨(rdL s i).toArray⟩) w'' ∧ Kept [] w w'' := by
  obtain ⟨F, G, rfl, h1, h2, h3⟩ := h
  refine (read_any h1 i).mono fun e w' ⟨v, he, hr, hk⟩ => ⟨v, he, hk, ?_⟩
  exact (fread_any (h2.kept hk (by simp)) i hb).mono fun e' w'' ⟨v', he', hr', hk'⟩ => ⟨v', he', str34 _ _ _ (hr.kept hk' (by simp)), str34 _ _ _ hr', hk.trans hk' (by simp)⟩

set_option maxRecDepth 100000 in
set_option maxHeartbeats 1000000 in
theorem alike_any (p q : Nat) (H : List Nat) (s : St) (w : World) (hT : Two w H p q s) (hb : s.ws.length ≤ 1000) : Calls Try.prog 12 #[.pointer (some ⟨p, 0, none⟩), .pointer (some ⟨q, 0, none⟩)] w fun e w' => e = .returned (.bool true) ∧ Kept [] w w' := by
  have hq : (∀ W, Kept [] w W → Two W H p q s) := fun W k => hT.kept k (by simp)
  obtain ⟨F, G, hH, h1, h2, h3⟩ := hT
  have b1 := blocks_any h1
  have b2 := fblocks_any h2
  have w1 := writes_any h1
  have w2 := fwrites_any h2
  have d1 := down_any h1
  have d2 := fdown_any h2
  clear h1 h2 h3 hH
  have hrb : Hid (∀ W, Kept [] w W → ∀ i : Int, _) := fun W k i => reads_both (hq W k) hb i
  clear hq
  generalize s.nb = b at b1 b2
  generalize s.ws.length = n at w1 w2
  generalize s.down = d at d1 d2
  by_cases hb8 : b ≤ 8
  · have hbb : (b : Int) ≤ 8 := by omega
    have hbb2 : ¬ (8 : Int) < (b : Int) := by omega
    go_enter Try.func12, Try.ntmps12
    go_wp2_with (first | (go_at_call 22; refine b1.mono ?_; rintro e w' ⟨rfl, rfl⟩) | (go_at_call 29; refine b2.mono ?_; rintro e w' ⟨rfl, rfl⟩) | (go_at_call 20; refine w1.mono ?_; rintro e w' ⟨rfl, rfl⟩) | (go_at_call 30; refine w2.mono ?_; rintro e w' ⟨rfl, rfl⟩) | (go_at_call 19; refine d1.mono ?_; rintro e w' ⟨rfl, rfl⟩) | (go_at_call 31; refine d2.mono ?_; rintro e w' ⟨rfl, rfl⟩))
    clear b1 b2 w1 w2 d1 d2
    go_loopw [5, 32] (fun _ i wr => ∃ j : Nat, i = .int .i64 (j : Int) ∧ j ≤ b ∧ Kept [] w wr) (fun _ i _ => b - (intOf i).toNat)
    case atStart => exact ⟨0, rfl, by omega, Kept.refl [] w⟩
    case round =>
      obtain ⟨j, rfl, hj, hK⟩ := hrel
      by_cases hlt : j < b
      · have hlt2 : (j : Int) < (b : Int) := by omega
        have h1 := hrb.out wr hK (j : Int)
        generalize rdE s (j : Int) = E at h1
        generalize (⟨(rdL s (j : Int)).toArray⟩ : ByteArray) = S at h1
        go_wp2_with fail
        refine h1.mono ?_
        rintro e wa ⟨v, rfl, k1, h2⟩
        clear h1
        go_wp2_with fail
        refine h2.mono ?_
        rintro e wb ⟨v', rfl, s1, s2, k2⟩
        clear h2
        have hK2 : Kept [] w wb := hK.trans k2 (by simp)
        clear k1 k2 hK
        go_wp2
        go_roundw
        case rel => exact ⟨j + 1, by go_num, by omega, hK2⟩
        case measure => simp [intOf]; omega
      · have hlt2 : ¬ (j : Int) < (b : Int) := by omega
        go_wp2
        go_ret
        exact ⟨rfl, hK⟩
  · have hbb : ¬ (b : Int) ≤ 8 := by omega
    have hbb2 : (8 : Int) < (b : Int) := by omega
    go_enter Try.func12, Try.ntmps12
    go_wp2_with (first | (go_at_call 22; refine b1.mono ?_; rintro e w' ⟨rfl, rfl⟩) | (go_at_call 29; refine b2.mono ?_; rintro e w' ⟨rfl, rfl⟩) | (go_at_call 20; refine w1.mono ?_; rintro e w' ⟨rfl, rfl⟩) | (go_at_call 30; refine w2.mono ?_; rintro e w' ⟨rfl, rfl⟩) | (go_at_call 19; refine d1.mono ?_; rintro e w' ⟨rfl, rfl⟩) | (go_at_call 31; refine d2.mono ?_; rintro e w' ⟨rfl, rfl⟩))
    clear b1 b2 w1 w2 d1 d2
    go_loopw [5, 32] (fun _ i wr => ∃ j : Nat, i = .int .i64 (j : Int) ∧ j ≤ 8 ∧ Kept [] w wr) (fun _ i _ => 8 - (intOf i).toNat)
    case atStart => exact ⟨0, rfl, by omega, Kept.refl [] w⟩
    case round =>
      obtain ⟨j, rfl, hj, hK⟩ := hrel
      by_cases hlt : j < 8
      · have hlt2 : (j : Int) < 8 := by omega
        have h1 := hrb.out wr hK (j : Int)
        generalize rdE s (j : Int) = E at h1
        generalize (⟨(rdL s (j : Int)).toArray⟩ : ByteArray) = S at h1
        go_wp2_with fail
        refine h1.mono ?_
        rintro e wa ⟨v, rfl, k1, h2⟩
        clear h1
        go_wp2_with fail
        refine h2.mono ?_
        rintro e wb ⟨v', rfl, s1, s2, k2⟩
        clear h2
        have hK2 : Kept [] w wb := hK.trans k2 (by simp)
        clear k1 k2 hK
        go_wp2
        go_roundw
        case rel => exact ⟨j + 1, by go_num, by omega, hK2⟩
        case measure => simp [intOf]; omega
      · have hlt2 : ¬ (j : Int) < 8 := by omega
        go_wp2
        go_ret
        exact ⟨rfl, hK⟩

end Go.Proofs.Ytmbfojjmnjagiaa
