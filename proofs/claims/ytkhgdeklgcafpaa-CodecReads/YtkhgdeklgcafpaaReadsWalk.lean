/-
  CodecReads: the walk.
-/
import Derived.Test.YtkhgdeklgcafpaaRefR2
namespace Go.Proofs.Ytkhgdeklgcafpaa
open Go.RowKit

/-- Two Readers, one of each kind, that stand at the same place. -/
structure Pair (w0 : World) (p q : Nat) (vp vq : Value) (l : List UInt8) (b : Bool) (w : World) : Prop where
  ours : ∃ v, IsR 58 w p v l b ∧ Within vp v
  doc : ∃ v, IsR 37 w q v l b ∧ Within vq v
  kept : Kept [p, q] w0 w

theorem Pair.step {w0 w w1 w2 : World} {p q : Nat} {vp vq v u : Value} {l1 : List UInt8} {b1 : Bool} (hpq : p ≠ q) (hp : ∀ g, vp.ownBlock = some g → g ≠ q)
    (k : Kept [p, q] w0 w) (hv : Within vp v) (hu : Within vq u) (h1 : Rest 58 w p v l1 b1 w1) (h2 : Rest 37 w1 q u l1 b1 w2) : Pair w0 p q vp vq l1 b1 w2 := by
  obtain ⟨v1, hR1, k1, i1⟩ := h1
  obtain ⟨u1, hR2, k2, i2⟩ := h2
  exact ⟨⟨v1, hR1.kept k2 (by simpa using hpq) (fun g hg => by simpa using hp g (hv g (i1 g hg))), hv.trans i1⟩, ⟨u1, hR2, hu.trans i2⟩, (k.trans k1 (by simp)).trans k2 (by simp)⟩

/-- What the statement's last test reads of two Readers that stand at the same place, whatever was drawn. -/
theorem Pair.quiet {w0 w : World} {p q : Nat} {vp vq : Value} {l : List UInt8} {b : Bool} (h : Pair w0 p q vp vq l b w) :
    (∀ k, Calls Try.prog 19 #[.pointer (some ⟨p, 0, none⟩)] (w.drewN k) fun e w' => e = .returned (.bool b) ∧ w' = w.drewN k) ∧
    (∀ k, Calls Try.prog 20 #[.pointer (some ⟨p, 0, none⟩)] (w.drewN k) fun e w' => e = .returned (.int .i64 (l.length : Int)) ∧ w' = w.drewN k) ∧
    (∀ k, Calls Try.prog 21 #[.pointer (some ⟨p, 0, none⟩)] (w.drewN k) fun e w' => e = .returned (.bool (!b && l.isEmpty)) ∧ w' = w.drewN k) ∧
    (∀ k, Calls Try.prog 22 #[.pointer (some ⟨q, 0, none⟩)] (w.drewN k) fun e w' => e = .returned (.bool (!b && l.isEmpty)) ∧ w' = w.drewN k) ∧
    (∃ a cap, w.cell? ⟨q, 0, none⟩ = some (.slice a l.length cap)) ∧ w.cell? ⟨q, 1, none⟩ = some (.bool b) := by
  obtain ⟨⟨v, hv, -⟩, ⟨u, hu, -⟩, -⟩ := h
  obtain ⟨c0, c1⟩ := cell_of_two hu.box
  obtain ⟨a, cap, rfl, -, -⟩ := isR_form hu
  exact ⟨fun k => (bad_any p v l b _ (hv.drewN k)).mono fun e w' ⟨he, hw⟩ => ⟨he, hw.symm⟩, fun k => (left_any p v l b _ (hv.drewN k)).mono fun e w' ⟨he, hw⟩ => ⟨he, hw.symm⟩,
    fun k => (end_any p v l b _ (hv.drewN k)).mono fun e w' ⟨he, hw⟩ => ⟨he, hw.symm⟩, fun k => (refr_end q _ l b _ (hu.drewN k)).mono fun e w' ⟨he, hw⟩ => ⟨he, hw.symm⟩, ⟨a, cap, c0⟩, c1⟩

theorem Pair.drewN {w0 w : World} {p q : Nat} {vp vq : Value} {l : List UInt8} {b : Bool} (h : Pair w0 p q vp vq l b w) (k : Nat) : Pair w0 p q vp vq l b (w.drewN k) := by
  obtain ⟨⟨v, hv, i⟩, ⟨u, hu, j⟩, kk⟩ := h
  exact ⟨⟨v, hv.drewN k, i⟩, ⟨u, hu.drewN k, j⟩, ⟨kk.os, kk.tape, kk.output, kk.size, kk.block⟩⟩

/-- The document's Reader stands where it stood while ours reads on. -/
theorem doc_stays {w w1 : World} {p q : Nat} {vq u v : Value} {l l1 : List UInt8} {b b1 : Bool} (hpq : p ≠ q) (hq : ∀ g, vq.ownBlock = some g → g ≠ p) (iu : Within vq u) (hu : IsR 37 w q u l b) (h1 : Rest 58 w p v l1 b1 w1) : IsR 37 w1 q u l b := by
  obtain ⟨v1, -, k1, -⟩ := h1
  exact hu.kept k1 (by simpa using hpq.symm) (fun g hg => by simpa using hq g (iu g hg))

set_option maxHeartbeats 4000000 in
theorem reads_walk (v0 v1 : Value) (l0 l1 : List UInt8) (h0 : l0.length ≤ 140737488351232) (h1 : l1.length ≤ 140737488351232) (w : World) (hr0 : Reads w v0 l0) (hr1 : Reads w v1 l1) (hin0 : Inside w v0) :
    Calls Try.prog 4 #[v0, v1] w fun e w' => e = .returned (.bool true) ∧ Kept [] w w' := by
  go_enter Try.func4, Try.ntmps4
  go_wp2_with fail
  refine (awake_any _).mono ?_
  rintro e w1 ⟨rfl, hk1⟩
  have s1 := hk1.size
  have hr01 := hr0.kept hk1 (by simp)
  go_wp2_with fail
  refine (newr_in v0 l0 _ hr01 (by omega)).mono ?_
  rintro e w2 ⟨p, vp, rfl, hp2, hk2, hf2, hpp, hi2⟩
  have s2 := hk2.size
  have hr02 := hr01.kept hk2 (by simp)
  go_wp2_with fail
  refine (of_any v0 l0 _ hr02 (fun g hg => by have := hin0 g hg; omega)).mono ?_
  rintro e w3 ⟨q, rfl, hq3, hk3, hqq⟩
  have s3 := hk3.size
  have hpl := hp2.lt
  have hpq : p ≠ q := by omega
  have hpq1 : ∀ g, vp.ownBlock = some g → g ≠ q := fun g hg => by have := hi2 g hg; omega
  have hpq2 : ∀ g, v0.ownBlock = some g → g ≠ p := fun g hg => by have := hin0 g hg; omega
  have hP : Pair w3 p q vp v0 l0 false w3 := ⟨⟨vp, hp2.kept hk3 (by simp) (by simp), Within.refl _⟩, ⟨v0, hq3, Within.refl _⟩, Kept.refl _ _⟩
  have hw3 : Kept [] w w3 := (hk1.trans hk2 (by simp)).trans hk3 (by simp)
  have hall : ∀ wr, Kept [p, q] w3 wr → Kept [] w wr := fun wr k => hw3.trans k (by simp; omega)
  obtain ⟨a1, cap1, rfl, ha2, ha3, ha4, ha5⟩ := hr1
  unfold maxLen at ha3
  clear hp2 hq3 hk1 hk2 hk3 hr01 hr02 hf2 hi2 hpp hqq hpl s1 s2 s3 hin0 hr0 ha4
  go_wp2_with fail
  go_loopw [17] (fun i wr => ∃ (k : Nat) (l : List UInt8) (b : Bool), k ≤ l1.length ∧ i = .int .i64 (k : Int) ∧ Pair w3 p q vp v0 l b wr) (fun i _ => l1.length - (intOf i).toNat)
  case atStart => exact ⟨0, l0, false, Nat.zero_le _, rfl, hP⟩
  case round =>
    obtain ⟨k, l, b, hk, rfl, ⟨v, hv, iv⟩, ⟨u, hu, iu⟩, kk⟩ := hrel
    clear hP
    by_cases hlt : k < l1.length
    · obtain ⟨c, hc⟩ : ∃ c, l1[k]? = some c := ⟨l1[k], by simp⟩
      obtain ⟨bk, ok, hab, hcells⟩ := ha5 (by intro h; subst h; simp at hlt)
      subst hab
      have hcell : wr.cell? ⟨bk, ok + k, none⟩ = some (.int .u8 (c.toNat : Int)) := by
        have h := hcells k c hc
        rw [(hall wr kk).cell (World.block_lt_of_cell? w _ h) (by simp)]
        exact h
      have hcb := c.toNat_lt
      generalize c.toNat = C at hcell hcb
      clear ha5 hcells hc
      have hlt' : (k : Int) < (l1.length : Int) := by omega
      have h3 : C % 3 = 0 ∨ C % 3 = 1 ∨ C % 3 = 2 := by omega
      rcases h3 with h3 | h3 | h3
      · have t0 : ((C : Int) % 3 == 0) = true := by simp; omega
        clear h3
        go_wp2_with (first | (go_at_call 13; refine (rnum_any p v l b _ hv).mono ?_; rintro e w4 ⟨rfl, hR4⟩) | (go_at_call 14; refine (refr_any q u l b _ (doc_stays hpq hpq2 iu hu hR4)).mono ?_; rintro e w5 ⟨rfl, hR5⟩))
        have hP5 := Pair.step hpq hpq1 kk iv iu hR4 hR5
        generalize (rnum l b).2.1 = l5 at hP5
        generalize (rnum l b).2.2 = b5 at hP5
        obtain ⟨q1, q2, q3, q4, ⟨a5, cap5, q5⟩, q6⟩ := hP5.quiet
        clear hR4 hR5 hv hu iv iu kk hcell
        go_quiet (first | (go_at_call 19; exact Calls.quiet_of_same (q1 _)) | (go_at_call 20; exact Calls.quiet_of_same (q2 _)) | (go_at_call 21; exact Calls.quiet_of_same (q3 _)) | (go_at_call 22; exact Calls.quiet_of_same (q4 _)))
        go_wp2_with fail
        go_roundw
        case rel => exact ⟨k + 1, l5, b5, by omega, by go_num, hP5.drewN _⟩
        case measure => simp [intOf]; omega
      · have t0 : ((C : Int) % 3 == 0) = false := by simp; omega
        have t1 : ((C : Int) % 3 == 1) = true := by simp; omega
        clear h3
        go_wp2_with (first | (go_at_call 15; refine (rint_any p v l b _ hv).mono ?_; rintro e w4 ⟨rfl, hR4⟩) | (go_at_call 16; refine (refr_int q u l b _ (doc_stays hpq hpq2 iu hu hR4)).mono ?_; rintro e w5 ⟨rfl, hR5⟩))
        have hP5 := Pair.step hpq hpq1 kk iv iu hR4 hR5
        generalize (rnum l b).2.1 = l5 at hP5
        generalize (rnum l b).2.2 = b5 at hP5
        obtain ⟨q1, q2, q3, q4, ⟨a5, cap5, q5⟩, q6⟩ := hP5.quiet
        clear hR4 hR5 hv hu iv iu kk hcell
        go_quiet (first | (go_at_call 19; exact Calls.quiet_of_same (q1 _)) | (go_at_call 20; exact Calls.quiet_of_same (q2 _)) | (go_at_call 21; exact Calls.quiet_of_same (q3 _)) | (go_at_call 22; exact Calls.quiet_of_same (q4 _)))
        go_wp2_with fail
        go_roundw
        case rel => exact ⟨k + 1, l5, b5, by omega, by go_num, hP5.drewN _⟩
        case measure => simp [intOf]; omega
      · have t0 : ((C : Int) % 3 == 0) = false := by simp; omega
        have t1 : ((C : Int) % 3 == 1) = false := by simp; omega
        clear h3
        go_wp2_with (first | (go_at_call 17; refine (rtext_any p v l b _ hv).mono ?_; rintro e w4 ⟨rfl, hR4⟩) | (go_at_call 18; refine (refr_text q u l b _ (doc_stays hpq hpq2 iu hu hR4)).mono ?_; rintro e w5 ⟨rfl, hR5⟩))
        have hP5 := Pair.step hpq hpq1 kk iv iu hR4 hR5
        generalize (rtext l b).2.1 = l5 at hP5
        generalize (rtext l b).2.2 = b5 at hP5
        obtain ⟨q1, q2, q3, q4, ⟨a5, cap5, q5⟩, q6⟩ := hP5.quiet
        clear hR4 hR5 hv hu iv iu kk hcell
        go_quiet (first | (go_at_call 19; exact Calls.quiet_of_same (q1 _)) | (go_at_call 20; exact Calls.quiet_of_same (q2 _)) | (go_at_call 21; exact Calls.quiet_of_same (q3 _)) | (go_at_call 22; exact Calls.quiet_of_same (q4 _)))
        go_wp2_with fail
        go_roundw
        case rel => exact ⟨k + 1, l5, b5, by omega, by go_num, hP5.drewN _⟩
        case measure => simp [intOf]; omega
    · have hge : ¬ (k : Int) < (l1.length : Int) := by omega
      have hfin := hall wr kk
      clear hv hu kk hall ha5
      go_wp2_with fail
      go_ret
      exact ⟨rfl, hfin⟩

end Go.Proofs.Ytkhgdeklgcafpaa
