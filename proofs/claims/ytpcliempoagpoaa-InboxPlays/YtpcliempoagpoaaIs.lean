/-
  same: the program's inbox and the document's, held against each other.
-/
import Derived.Test.YtpcliempoagpoaaIl
namespace Go.Proofs.Ytpcliempoagpoaa
open Go.RowKit
set_option linter.unusedVariables false
section
variable {w : World}
set_option maxRecDepth 100000 in
set_option maxHeartbeats 4000000 in
theorem same16_some {w0 : World} {p pf : Nat} {v : Value} {q m : Lq} {t mt : List Lq} (hB : IsB w p (q :: t)) (hF : IsF w0 w pf v (m :: mt)) (he : (q :: t).map (·.x) = (m :: mt).map (·.x)) : Calls Try.prog 16 #[.pointer (some ⟨p, 0, none⟩), .pointer (some ⟨pf, 0, none⟩)] w fun e w' => e = .returned (.bool true) ∧ Kept [] w w' := by
  have HB := Hid.mk hB
  have HF := Hid.mk hF
  have HE := Hid.mk he
  have h8 := hB.len
  have hlen : (q :: t).length = (m :: mt).length := by simpa using congrArg List.length he
  obtain ⟨av, cv, rfl, hv1, hv2⟩ := hF.own.row.form
  rw [← hlen] at HF hv1
  generalize hn : (q :: t).length = n at *
  have HN := Hid.mk hn
  have hn1 : 0 < n := by rw [← hn]; simp
  clear hB hF he hn hlen
  go_enter Try.func16, Try.ntmps16
  go_wp2_with fail
  refine (first22_some HB.out).mono ?_
  rintro e w1 ⟨a1, c1, rfl, hO1, k1, hf1⟩
  have hF1 := HF.out.kept0 k1
  have hc1 := cell_of_one hF1.box
  have hlt : pf < w1.heap.size := hF1.lt
  have hnI : (0 : Int) < (n : Int) := by omega
  clear hF1
  go_wp2_with fail
  obtain ⟨W2, e2, k2, hz2, hb2⟩ := box1 w1 (.cells #[Sv q.x.fr, .int .u64 (q.x.ser : Int), .int .i64 q.x.kind, .slice a1 q.x.args.length c1] 34)
  rw [e2]
  have kd := (k1.trans k2 (by simp)).drew
  have hBd := HB.out.kept0 kd
  have hFd := HF.out.kept0 kd
  have hOd : OwnsJ W2.drew (.slice a1 q.x.args.length c1) q.x.args := (hO1.kept k2 (by simp)).kept (Kept.refl [] W2).drew (by simp)
  have hbd : W2.drew.heap[w1.heap.size]? = some (.cells #[Sv q.x.fr, .int .u64 (q.x.ser : Int), .int .i64 q.x.kind, .slice a1 q.x.args.length c1] 34 (0, 0)) := hb2
  have hfd := hFd.own.row
  obtain ⟨b, o, rfl, d0, d1, d2, d3⟩ := hfd.at (j := 0) (q := m) rfl
  rw [Nat.zero_mul, Nat.add_zero] at *
  have HS : Hid (∀ W, Kept [] W2.drew W → (W.cell? ⟨pf, 0, none⟩ = some (.slice (some ⟨b, o, none⟩) n cv) ∧ W.cell? ⟨w1.heap.size, 0, none⟩ = some (Sv q.x.fr) ∧ W.cell? ⟨w1.heap.size, 1, none⟩ = some (.int .u64 (q.x.ser : Int)) ∧ W.cell? ⟨w1.heap.size, 2, none⟩ = some (.int .i64 q.x.kind) ∧ W.cell? ⟨w1.heap.size, 3, none⟩ = some (.slice a1 q.x.args.length c1) ∧ W.cell? ⟨b, o, none⟩ = some (Sv m.x.fr) ∧ W.cell? ⟨b, o + 1, none⟩ = some (.int .u64 (m.x.ser : Int)) ∧ W.cell? ⟨b, o + 2, none⟩ = some (.int .i64 m.x.kind) ∧ W.cell? ⟨b, o + 3, none⟩ = some (.slice m.ad m.x.args.length m.cap))) := fun W k => by
    obtain ⟨x0, x1, x2, x3⟩ := cells4 hbd
    exact ⟨k.cell_eq (cell_of_one hFd.box), k.cell_eq x0, k.cell_eq x1, k.cell_eq x2, k.cell_eq x3, k.cell_eq d0, k.cell_eq d1, k.cell_eq d2, k.cell_eq d3⟩
  have S0 := HS.out _ (Kept.refl [] _)
  have H21 : Hid (Calls Try.prog 21 #[.pointer (some ⟨p, 0, none⟩)] W2.drew fun e w' => e = .returned (.int .i64 (n : Int)) ∧ W2.drew = w') := by
    have := len21 hBd
    rw [HN.out] at this
    exact this
  have H24 := Hid.mk (all24 hBd)
  have H25 : Hid (∀ W qs' v', Kept [] W2.drew W → OwnL W2.drew W v' qs' → qs'.map (·.x) = (q :: t).map (·.x) → Calls Try.prog 25 #[v', .slice (some ⟨b, o, none⟩) n cv] W fun e w' => e = .returned (.bool true) ∧ Kept [] W w') := fun W qs' v' k ho hm => by
    obtain ⟨a', c', rfl, -, -⟩ := ho.row.form
    have hl' : qs'.length = n := by rw [← HN.out, ← List.length_map (f := (·.x)), hm, List.length_map]
    have := sameAll24 ho.row ho.vals (hfd.kept k (by simp)) (hFd.own.vals.kept0 k) (by omega) (fun y hy => by
      have hm' : y.x ∈ (q :: t).map (·.x) := by rw [← hm]; exact List.mem_map.2 ⟨y, hy, rfl⟩
      obtain ⟨z, hz, hzy⟩ := List.mem_map.1 hm'
      have := formed_le (hBd.good z hz).2
      rw [← hzy]
      omega)
    rwa [decide_eq_true (hm.trans HE.out)] at this
  have H15 : Hid (∀ W, Kept [] W2.drew W → Calls Try.prog 15 #[Lv q.x a1 c1, Lv m.x m.ad m.cap] W fun e w' => e = .returned (.bool true) ∧ Kept [] W w') := fun W k => by
    have := same16 q.x m.x a1 m.ad c1 m.cap (hOd.reads.kept k (by simp)) ((hFd.own.args m (by simp)).reads.kept k (by simp)) (by have := formed_le (hBd.good q (by simp)).2; omega)
    have hx : q.x = m.x := by have := HE.out; simp at this; exact this.1
    rw [(sameL_iff _ _).2 hx] at this
    exact this
  have HKD := Hid.mk kd
  clear hBd hFd hOd hbd hfd d0 d1 d2 d3 hc1 hb2 e2 kd hO1 hf1 k2 k1
  refine wp_region_held_drew (S := fun w' => w'.cell? ⟨pf, 0, none⟩ = some (.slice (some ⟨b, o, none⟩) n cv) ∧ w'.cell? ⟨w1.heap.size, 0, none⟩ = some (Sv q.x.fr) ∧ w'.cell? ⟨w1.heap.size, 1, none⟩ = some (.int .u64 (q.x.ser : Int)) ∧ w'.cell? ⟨w1.heap.size, 2, none⟩ = some (.int .i64 q.x.kind) ∧ w'.cell? ⟨w1.heap.size, 3, none⟩ = some (.slice a1 q.x.args.length c1) ∧ w'.cell? ⟨b, o, none⟩ = some (Sv m.x.fr) ∧ w'.cell? ⟨b, o + 1, none⟩ = some (.int .u64 (m.x.ser : Int)) ∧ w'.cell? ⟨b, o + 2, none⟩ = some (.int .i64 m.x.kind) ∧ w'.cell? ⟨b, o + 3, none⟩ = some (.slice m.ad m.x.args.length m.cap)) (by kernel_rfl) S0 (fun _ => ?_)
  refine wpAnyH_take (i := 0) (v := .pointer (some ⟨p, 0, none⟩)) rfl (by kernel_rfl) (by kernel_rfl) (by kernel_rfl) (fun _ _ _ h => h) (Or.inl ⟨by rfl, fun w hS => by have hS' : w.cell? ⟨pf, 0, none⟩ = some (.slice (some ⟨b, o, none⟩) n cv) ∧ w.cell? ⟨w1.heap.size, 0, none⟩ = some (Sv q.x.fr) ∧ w.cell? ⟨w1.heap.size, 1, none⟩ = some (.int .u64 (q.x.ser : Int)) ∧ w.cell? ⟨w1.heap.size, 2, none⟩ = some (.int .i64 q.x.kind) ∧ w.cell? ⟨w1.heap.size, 3, none⟩ = some (.slice a1 q.x.args.length c1) ∧ w.cell? ⟨b, o, none⟩ = some (Sv m.x.fr) ∧ w.cell? ⟨b, o + 1, none⟩ = some (.int .u64 (m.x.ser : Int)) ∧ w.cell? ⟨b, o + 2, none⟩ = some (.int .i64 m.x.kind) ∧ w.cell? ⟨b, o + 3, none⟩ = some (.slice m.ad m.x.args.length m.cap) := hS; go_simp⟩) S0 ?_
  go_simp
  refine wpAnyH_take (i := 2) (v := .pointer (some ⟨pf, 0, none⟩)) rfl (by kernel_rfl) (by kernel_rfl) (by kernel_rfl) (fun _ _ _ h => h) (Or.inl ⟨by rfl, fun w hS => by have hS' : w.cell? ⟨pf, 0, none⟩ = some (.slice (some ⟨b, o, none⟩) n cv) ∧ w.cell? ⟨w1.heap.size, 0, none⟩ = some (Sv q.x.fr) ∧ w.cell? ⟨w1.heap.size, 1, none⟩ = some (.int .u64 (q.x.ser : Int)) ∧ w.cell? ⟨w1.heap.size, 2, none⟩ = some (.int .i64 q.x.kind) ∧ w.cell? ⟨w1.heap.size, 3, none⟩ = some (.slice a1 q.x.args.length c1) ∧ w.cell? ⟨b, o, none⟩ = some (Sv m.x.fr) ∧ w.cell? ⟨b, o + 1, none⟩ = some (.int .u64 (m.x.ser : Int)) ∧ w.cell? ⟨b, o + 2, none⟩ = some (.int .i64 m.x.kind) ∧ w.cell? ⟨b, o + 3, none⟩ = some (.slice m.ad m.x.args.length m.cap) := hS; go_simp⟩) S0 ?_
  go_simp
  refine wpAnyH_take (i := 3) (v := .pointer (some ⟨pf, 0, none⟩)) rfl (by kernel_rfl) (by kernel_rfl) (by kernel_rfl) (fun _ _ _ h => h) (Or.inl ⟨by rfl, fun w hS => by have hS' : w.cell? ⟨pf, 0, none⟩ = some (.slice (some ⟨b, o, none⟩) n cv) ∧ w.cell? ⟨w1.heap.size, 0, none⟩ = some (Sv q.x.fr) ∧ w.cell? ⟨w1.heap.size, 1, none⟩ = some (.int .u64 (q.x.ser : Int)) ∧ w.cell? ⟨w1.heap.size, 2, none⟩ = some (.int .i64 q.x.kind) ∧ w.cell? ⟨w1.heap.size, 3, none⟩ = some (.slice a1 q.x.args.length c1) ∧ w.cell? ⟨b, o, none⟩ = some (Sv m.x.fr) ∧ w.cell? ⟨b, o + 1, none⟩ = some (.int .u64 (m.x.ser : Int)) ∧ w.cell? ⟨b, o + 2, none⟩ = some (.int .i64 m.x.kind) ∧ w.cell? ⟨b, o + 3, none⟩ = some (.slice m.ad m.x.args.length m.cap) := hS; go_simp⟩) S0 ?_
  go_simp
  refine wpAnyH_take (i := 4) (v := .pointer (some ⟨pf, 0, none⟩)) rfl (by kernel_rfl) (by kernel_rfl) (by kernel_rfl) (fun _ _ _ h => h) (Or.inl ⟨by rfl, fun w hS => by have hS' : w.cell? ⟨pf, 0, none⟩ = some (.slice (some ⟨b, o, none⟩) n cv) ∧ w.cell? ⟨w1.heap.size, 0, none⟩ = some (Sv q.x.fr) ∧ w.cell? ⟨w1.heap.size, 1, none⟩ = some (.int .u64 (q.x.ser : Int)) ∧ w.cell? ⟨w1.heap.size, 2, none⟩ = some (.int .i64 q.x.kind) ∧ w.cell? ⟨w1.heap.size, 3, none⟩ = some (.slice a1 q.x.args.length c1) ∧ w.cell? ⟨b, o, none⟩ = some (Sv m.x.fr) ∧ w.cell? ⟨b, o + 1, none⟩ = some (.int .u64 (m.x.ser : Int)) ∧ w.cell? ⟨b, o + 2, none⟩ = some (.int .i64 m.x.kind) ∧ w.cell? ⟨b, o + 3, none⟩ = some (.slice m.ad m.x.args.length m.cap) := hS; go_simp⟩) S0 ?_
  go_simp
  refine wpAnyH_take (i := 5) (v := .slice (some ⟨b, o, none⟩) n cv) rfl (by kernel_rfl) (by kernel_rfl) (by kernel_rfl) (fun _ _ _ h => h) (Or.inl ⟨by rfl, fun w hS => by have hS' : w.cell? ⟨pf, 0, none⟩ = some (.slice (some ⟨b, o, none⟩) n cv) ∧ w.cell? ⟨w1.heap.size, 0, none⟩ = some (Sv q.x.fr) ∧ w.cell? ⟨w1.heap.size, 1, none⟩ = some (.int .u64 (q.x.ser : Int)) ∧ w.cell? ⟨w1.heap.size, 2, none⟩ = some (.int .i64 q.x.kind) ∧ w.cell? ⟨w1.heap.size, 3, none⟩ = some (.slice a1 q.x.args.length c1) ∧ w.cell? ⟨b, o, none⟩ = some (Sv m.x.fr) ∧ w.cell? ⟨b, o + 1, none⟩ = some (.int .u64 (m.x.ser : Int)) ∧ w.cell? ⟨b, o + 2, none⟩ = some (.int .i64 m.x.kind) ∧ w.cell? ⟨b, o + 3, none⟩ = some (.slice m.ad m.x.args.length m.cap) := hS; go_simp⟩) S0 ?_
  go_simp
  refine wpAnyH_take (i := 6) (v := .int .i64 (n : Int)) rfl (by kernel_rfl) (by kernel_rfl) (by kernel_rfl) (fun _ _ _ h => h) (Or.inl ⟨by rfl, fun w hS => by have hS' : w.cell? ⟨pf, 0, none⟩ = some (.slice (some ⟨b, o, none⟩) n cv) ∧ w.cell? ⟨w1.heap.size, 0, none⟩ = some (Sv q.x.fr) ∧ w.cell? ⟨w1.heap.size, 1, none⟩ = some (.int .u64 (q.x.ser : Int)) ∧ w.cell? ⟨w1.heap.size, 2, none⟩ = some (.int .i64 q.x.kind) ∧ w.cell? ⟨w1.heap.size, 3, none⟩ = some (.slice a1 q.x.args.length c1) ∧ w.cell? ⟨b, o, none⟩ = some (Sv m.x.fr) ∧ w.cell? ⟨b, o + 1, none⟩ = some (.int .u64 (m.x.ser : Int)) ∧ w.cell? ⟨b, o + 2, none⟩ = some (.int .i64 m.x.kind) ∧ w.cell? ⟨b, o + 3, none⟩ = some (.slice m.ad m.x.args.length m.cap) := hS; go_simp⟩) S0 ?_
  go_simp
  refine wpAnyH_ready (rs := [1]) (by kernel_rfl) (by simp) (AllReadyH.cons rfl (fun K hK => ?_) AllReadyH.nil)
  go_simp
  refine (H21.out).mono ?_
  rintro e w3 ⟨rfl, rfl⟩
  refine hK.out _ _ S0 (fun _ => ?_)
  clear hK K
  go_simp
  refine wpAnyH_take (i := 7) (v := .bool true) rfl (by kernel_rfl) (by kernel_rfl) (by kernel_rfl) (fun _ _ _ h => h) (Or.inl ⟨by rfl, fun w hS => by have hS' : w.cell? ⟨pf, 0, none⟩ = some (.slice (some ⟨b, o, none⟩) n cv) ∧ w.cell? ⟨w1.heap.size, 0, none⟩ = some (Sv q.x.fr) ∧ w.cell? ⟨w1.heap.size, 1, none⟩ = some (.int .u64 (q.x.ser : Int)) ∧ w.cell? ⟨w1.heap.size, 2, none⟩ = some (.int .i64 q.x.kind) ∧ w.cell? ⟨w1.heap.size, 3, none⟩ = some (.slice a1 q.x.args.length c1) ∧ w.cell? ⟨b, o, none⟩ = some (Sv m.x.fr) ∧ w.cell? ⟨b, o + 1, none⟩ = some (.int .u64 (m.x.ser : Int)) ∧ w.cell? ⟨b, o + 2, none⟩ = some (.int .i64 m.x.kind) ∧ w.cell? ⟨b, o + 3, none⟩ = some (.slice m.ad m.x.args.length m.cap) := hS; go_simp⟩) S0 ?_
  go_simp
  refine wpAnyH_take (i := 8) (v := .bool true) rfl (by kernel_rfl) (by kernel_rfl) (by kernel_rfl) (fun _ _ _ h => h) (Or.inl ⟨by rfl, fun w hS => by have hS' : w.cell? ⟨pf, 0, none⟩ = some (.slice (some ⟨b, o, none⟩) n cv) ∧ w.cell? ⟨w1.heap.size, 0, none⟩ = some (Sv q.x.fr) ∧ w.cell? ⟨w1.heap.size, 1, none⟩ = some (.int .u64 (q.x.ser : Int)) ∧ w.cell? ⟨w1.heap.size, 2, none⟩ = some (.int .i64 q.x.kind) ∧ w.cell? ⟨w1.heap.size, 3, none⟩ = some (.slice a1 q.x.args.length c1) ∧ w.cell? ⟨b, o, none⟩ = some (Sv m.x.fr) ∧ w.cell? ⟨b, o + 1, none⟩ = some (.int .u64 (m.x.ser : Int)) ∧ w.cell? ⟨b, o + 2, none⟩ = some (.int .i64 m.x.kind) ∧ w.cell? ⟨b, o + 3, none⟩ = some (.slice m.ad m.x.args.length m.cap) := hS; go_simp⟩) S0 ?_
  go_simp
  refine wpAnyH_take (i := 9) (v := .pointer (some ⟨p, 0, none⟩)) rfl (by kernel_rfl) (by kernel_rfl) (by kernel_rfl) (fun _ _ _ h => h) (Or.inl ⟨by rfl, fun w hS => by have hS' : w.cell? ⟨pf, 0, none⟩ = some (.slice (some ⟨b, o, none⟩) n cv) ∧ w.cell? ⟨w1.heap.size, 0, none⟩ = some (Sv q.x.fr) ∧ w.cell? ⟨w1.heap.size, 1, none⟩ = some (.int .u64 (q.x.ser : Int)) ∧ w.cell? ⟨w1.heap.size, 2, none⟩ = some (.int .i64 q.x.kind) ∧ w.cell? ⟨w1.heap.size, 3, none⟩ = some (.slice a1 q.x.args.length c1) ∧ w.cell? ⟨b, o, none⟩ = some (Sv m.x.fr) ∧ w.cell? ⟨b, o + 1, none⟩ = some (.int .u64 (m.x.ser : Int)) ∧ w.cell? ⟨b, o + 2, none⟩ = some (.int .i64 m.x.kind) ∧ w.cell? ⟨b, o + 3, none⟩ = some (.slice m.ad m.x.args.length m.cap) := hS; go_simp⟩) S0 ?_
  go_simp
  refine wpAnyH_take (i := 11) (v := .pointer (some ⟨pf, 0, none⟩)) rfl (by kernel_rfl) (by kernel_rfl) (by kernel_rfl) (fun _ _ _ h => h) (Or.inl ⟨by rfl, fun w hS => by have hS' : w.cell? ⟨pf, 0, none⟩ = some (.slice (some ⟨b, o, none⟩) n cv) ∧ w.cell? ⟨w1.heap.size, 0, none⟩ = some (Sv q.x.fr) ∧ w.cell? ⟨w1.heap.size, 1, none⟩ = some (.int .u64 (q.x.ser : Int)) ∧ w.cell? ⟨w1.heap.size, 2, none⟩ = some (.int .i64 q.x.kind) ∧ w.cell? ⟨w1.heap.size, 3, none⟩ = some (.slice a1 q.x.args.length c1) ∧ w.cell? ⟨b, o, none⟩ = some (Sv m.x.fr) ∧ w.cell? ⟨b, o + 1, none⟩ = some (.int .u64 (m.x.ser : Int)) ∧ w.cell? ⟨b, o + 2, none⟩ = some (.int .i64 m.x.kind) ∧ w.cell? ⟨b, o + 3, none⟩ = some (.slice m.ad m.x.args.length m.cap) := hS; go_simp⟩) S0 ?_
  go_simp
  refine wpAnyH_take (i := 12) (v := .pointer (some ⟨pf, 0, none⟩)) rfl (by kernel_rfl) (by kernel_rfl) (by kernel_rfl) (fun _ _ _ h => h) (Or.inl ⟨by rfl, fun w hS => by have hS' : w.cell? ⟨pf, 0, none⟩ = some (.slice (some ⟨b, o, none⟩) n cv) ∧ w.cell? ⟨w1.heap.size, 0, none⟩ = some (Sv q.x.fr) ∧ w.cell? ⟨w1.heap.size, 1, none⟩ = some (.int .u64 (q.x.ser : Int)) ∧ w.cell? ⟨w1.heap.size, 2, none⟩ = some (.int .i64 q.x.kind) ∧ w.cell? ⟨w1.heap.size, 3, none⟩ = some (.slice a1 q.x.args.length c1) ∧ w.cell? ⟨b, o, none⟩ = some (Sv m.x.fr) ∧ w.cell? ⟨b, o + 1, none⟩ = some (.int .u64 (m.x.ser : Int)) ∧ w.cell? ⟨b, o + 2, none⟩ = some (.int .i64 m.x.kind) ∧ w.cell? ⟨b, o + 3, none⟩ = some (.slice m.ad m.x.args.length m.cap) := hS; go_simp⟩) S0 ?_
  go_simp
  refine wpAnyH_take (i := 13) (v := .pointer (some ⟨pf, 0, none⟩)) rfl (by kernel_rfl) (by kernel_rfl) (by kernel_rfl) (fun _ _ _ h => h) (Or.inl ⟨by rfl, fun w hS => by have hS' : w.cell? ⟨pf, 0, none⟩ = some (.slice (some ⟨b, o, none⟩) n cv) ∧ w.cell? ⟨w1.heap.size, 0, none⟩ = some (Sv q.x.fr) ∧ w.cell? ⟨w1.heap.size, 1, none⟩ = some (.int .u64 (q.x.ser : Int)) ∧ w.cell? ⟨w1.heap.size, 2, none⟩ = some (.int .i64 q.x.kind) ∧ w.cell? ⟨w1.heap.size, 3, none⟩ = some (.slice a1 q.x.args.length c1) ∧ w.cell? ⟨b, o, none⟩ = some (Sv m.x.fr) ∧ w.cell? ⟨b, o + 1, none⟩ = some (.int .u64 (m.x.ser : Int)) ∧ w.cell? ⟨b, o + 2, none⟩ = some (.int .i64 m.x.kind) ∧ w.cell? ⟨b, o + 3, none⟩ = some (.slice m.ad m.x.args.length m.cap) := hS; go_simp⟩) S0 ?_
  go_simp
  refine wpAnyH_take (i := 14) (v := .slice (some ⟨b, o, none⟩) n cv) rfl (by kernel_rfl) (by kernel_rfl) (by kernel_rfl) (fun _ _ _ h => h) (Or.inl ⟨by rfl, fun w hS => by have hS' : w.cell? ⟨pf, 0, none⟩ = some (.slice (some ⟨b, o, none⟩) n cv) ∧ w.cell? ⟨w1.heap.size, 0, none⟩ = some (Sv q.x.fr) ∧ w.cell? ⟨w1.heap.size, 1, none⟩ = some (.int .u64 (q.x.ser : Int)) ∧ w.cell? ⟨w1.heap.size, 2, none⟩ = some (.int .i64 q.x.kind) ∧ w.cell? ⟨w1.heap.size, 3, none⟩ = some (.slice a1 q.x.args.length c1) ∧ w.cell? ⟨b, o, none⟩ = some (Sv m.x.fr) ∧ w.cell? ⟨b, o + 1, none⟩ = some (.int .u64 (m.x.ser : Int)) ∧ w.cell? ⟨b, o + 2, none⟩ = some (.int .i64 m.x.kind) ∧ w.cell? ⟨b, o + 3, none⟩ = some (.slice m.ad m.x.args.length m.cap) := hS; go_simp⟩) S0 ?_
  go_simp
  refine wpAnyH_ready (rs := [10]) (by kernel_rfl) (by simp) (AllReadyH.cons rfl (fun K hK => ?_) AllReadyH.nil)
  go_simp
  refine (H24.out).mono ?_
  rintro e w4 ⟨v4, rfl, qs4, hm4, hO4, k4⟩
  have S4 := HS.out _ k4
  refine hK.out _ _ S4 (fun _ => ?_)
  clear hK K
  go_simp
  refine wpAnyH_ready (rs := [15]) (by kernel_rfl) (by simp) (AllReadyH.cons rfl (fun K hK => ?_) AllReadyH.nil)
  go_simp
  refine (H25.out _ _ _ k4 hO4 hm4).mono ?_
  rintro e w5 ⟨rfl, k5'⟩
  have k5 := k4.trans k5' (by simp)
  have S5 := HS.out _ k5
  refine hK.out _ _ S5 (fun _ => ?_)
  clear hK K
  go_simp
  refine wpAnyH_take (i := 16) (v := .bool true) rfl (by kernel_rfl) (by kernel_rfl) (by kernel_rfl) (fun _ _ _ h => h) (Or.inl ⟨by rfl, fun w hS => by have hS' : w.cell? ⟨pf, 0, none⟩ = some (.slice (some ⟨b, o, none⟩) n cv) ∧ w.cell? ⟨w1.heap.size, 0, none⟩ = some (Sv q.x.fr) ∧ w.cell? ⟨w1.heap.size, 1, none⟩ = some (.int .u64 (q.x.ser : Int)) ∧ w.cell? ⟨w1.heap.size, 2, none⟩ = some (.int .i64 q.x.kind) ∧ w.cell? ⟨w1.heap.size, 3, none⟩ = some (.slice a1 q.x.args.length c1) ∧ w.cell? ⟨b, o, none⟩ = some (Sv m.x.fr) ∧ w.cell? ⟨b, o + 1, none⟩ = some (.int .u64 (m.x.ser : Int)) ∧ w.cell? ⟨b, o + 2, none⟩ = some (.int .i64 m.x.kind) ∧ w.cell? ⟨b, o + 3, none⟩ = some (.slice m.ad m.x.args.length m.cap) := hS; go_simp⟩) S5 ?_
  go_simp
  refine wpAnyH_take (i := 17) (v := .bool true) rfl (by kernel_rfl) (by kernel_rfl) (by kernel_rfl) (fun _ _ _ h => h) (Or.inl ⟨by rfl, fun w hS => by have hS' : w.cell? ⟨pf, 0, none⟩ = some (.slice (some ⟨b, o, none⟩) n cv) ∧ w.cell? ⟨w1.heap.size, 0, none⟩ = some (Sv q.x.fr) ∧ w.cell? ⟨w1.heap.size, 1, none⟩ = some (.int .u64 (q.x.ser : Int)) ∧ w.cell? ⟨w1.heap.size, 2, none⟩ = some (.int .i64 q.x.kind) ∧ w.cell? ⟨w1.heap.size, 3, none⟩ = some (.slice a1 q.x.args.length c1) ∧ w.cell? ⟨b, o, none⟩ = some (Sv m.x.fr) ∧ w.cell? ⟨b, o + 1, none⟩ = some (.int .u64 (m.x.ser : Int)) ∧ w.cell? ⟨b, o + 2, none⟩ = some (.int .i64 m.x.kind) ∧ w.cell? ⟨b, o + 3, none⟩ = some (.slice m.ad m.x.args.length m.cap) := hS; go_simp⟩) S5 ?_
  go_simp
  refine wpAnyH_take (i := 18) (v := .bool true) rfl (by kernel_rfl) (by kernel_rfl) (by kernel_rfl) (fun _ _ _ h => h) (Or.inl ⟨by rfl, fun w hS => by have hS' : w.cell? ⟨pf, 0, none⟩ = some (.slice (some ⟨b, o, none⟩) n cv) ∧ w.cell? ⟨w1.heap.size, 0, none⟩ = some (Sv q.x.fr) ∧ w.cell? ⟨w1.heap.size, 1, none⟩ = some (.int .u64 (q.x.ser : Int)) ∧ w.cell? ⟨w1.heap.size, 2, none⟩ = some (.int .i64 q.x.kind) ∧ w.cell? ⟨w1.heap.size, 3, none⟩ = some (.slice a1 q.x.args.length c1) ∧ w.cell? ⟨b, o, none⟩ = some (Sv m.x.fr) ∧ w.cell? ⟨b, o + 1, none⟩ = some (.int .u64 (m.x.ser : Int)) ∧ w.cell? ⟨b, o + 2, none⟩ = some (.int .i64 m.x.kind) ∧ w.cell? ⟨b, o + 3, none⟩ = some (.slice m.ad m.x.args.length m.cap) := hS; go_simp⟩) S5 ?_
  go_simp
  refine wpAnyH_take (i := 19) (v := .bool true) rfl (by kernel_rfl) (by kernel_rfl) (by kernel_rfl) (fun _ _ _ h => h) (Or.inl ⟨by rfl, fun w hS => by have hS' : w.cell? ⟨pf, 0, none⟩ = some (.slice (some ⟨b, o, none⟩) n cv) ∧ w.cell? ⟨w1.heap.size, 0, none⟩ = some (Sv q.x.fr) ∧ w.cell? ⟨w1.heap.size, 1, none⟩ = some (.int .u64 (q.x.ser : Int)) ∧ w.cell? ⟨w1.heap.size, 2, none⟩ = some (.int .i64 q.x.kind) ∧ w.cell? ⟨w1.heap.size, 3, none⟩ = some (.slice a1 q.x.args.length c1) ∧ w.cell? ⟨b, o, none⟩ = some (Sv m.x.fr) ∧ w.cell? ⟨b, o + 1, none⟩ = some (.int .u64 (m.x.ser : Int)) ∧ w.cell? ⟨b, o + 2, none⟩ = some (.int .i64 m.x.kind) ∧ w.cell? ⟨b, o + 3, none⟩ = some (.slice m.ad m.x.args.length m.cap) := hS; go_simp⟩) S5 ?_
  go_simp
  refine wpAnyH_take (i := 20) (v := .bool true) rfl (by kernel_rfl) (by kernel_rfl) (by kernel_rfl) (fun _ _ _ h => h) (Or.inl ⟨by rfl, fun w hS => by have hS' : w.cell? ⟨pf, 0, none⟩ = some (.slice (some ⟨b, o, none⟩) n cv) ∧ w.cell? ⟨w1.heap.size, 0, none⟩ = some (Sv q.x.fr) ∧ w.cell? ⟨w1.heap.size, 1, none⟩ = some (.int .u64 (q.x.ser : Int)) ∧ w.cell? ⟨w1.heap.size, 2, none⟩ = some (.int .i64 q.x.kind) ∧ w.cell? ⟨w1.heap.size, 3, none⟩ = some (.slice a1 q.x.args.length c1) ∧ w.cell? ⟨b, o, none⟩ = some (Sv m.x.fr) ∧ w.cell? ⟨b, o + 1, none⟩ = some (.int .u64 (m.x.ser : Int)) ∧ w.cell? ⟨b, o + 2, none⟩ = some (.int .i64 m.x.kind) ∧ w.cell? ⟨b, o + 3, none⟩ = some (.slice m.ad m.x.args.length m.cap) := hS; go_simp⟩) S5 ?_
  go_simp
  refine wpAnyH_take (i := 21) (v := .bool true) rfl (by kernel_rfl) (by kernel_rfl) (by kernel_rfl) (fun _ _ _ h => h) (Or.inl ⟨by rfl, fun w hS => by have hS' : w.cell? ⟨pf, 0, none⟩ = some (.slice (some ⟨b, o, none⟩) n cv) ∧ w.cell? ⟨w1.heap.size, 0, none⟩ = some (Sv q.x.fr) ∧ w.cell? ⟨w1.heap.size, 1, none⟩ = some (.int .u64 (q.x.ser : Int)) ∧ w.cell? ⟨w1.heap.size, 2, none⟩ = some (.int .i64 q.x.kind) ∧ w.cell? ⟨w1.heap.size, 3, none⟩ = some (.slice a1 q.x.args.length c1) ∧ w.cell? ⟨b, o, none⟩ = some (Sv m.x.fr) ∧ w.cell? ⟨b, o + 1, none⟩ = some (.int .u64 (m.x.ser : Int)) ∧ w.cell? ⟨b, o + 2, none⟩ = some (.int .i64 m.x.kind) ∧ w.cell? ⟨b, o + 3, none⟩ = some (.slice m.ad m.x.args.length m.cap) := hS; go_simp⟩) S5 ?_
  go_simp
  refine wpAnyH_take (i := 22) (v := .bool true) rfl (by kernel_rfl) (by kernel_rfl) (by kernel_rfl) (fun _ _ _ h => h) (Or.inl ⟨by rfl, fun w hS => by have hS' : w.cell? ⟨pf, 0, none⟩ = some (.slice (some ⟨b, o, none⟩) n cv) ∧ w.cell? ⟨w1.heap.size, 0, none⟩ = some (Sv q.x.fr) ∧ w.cell? ⟨w1.heap.size, 1, none⟩ = some (.int .u64 (q.x.ser : Int)) ∧ w.cell? ⟨w1.heap.size, 2, none⟩ = some (.int .i64 q.x.kind) ∧ w.cell? ⟨w1.heap.size, 3, none⟩ = some (.slice a1 q.x.args.length c1) ∧ w.cell? ⟨b, o, none⟩ = some (Sv m.x.fr) ∧ w.cell? ⟨b, o + 1, none⟩ = some (.int .u64 (m.x.ser : Int)) ∧ w.cell? ⟨b, o + 2, none⟩ = some (.int .i64 m.x.kind) ∧ w.cell? ⟨b, o + 3, none⟩ = some (.slice m.ad m.x.args.length m.cap) := hS; go_simp⟩) S5 ?_
  go_simp
  refine wpAnyH_take (i := 23) (v := .bool true) rfl (by kernel_rfl) (by kernel_rfl) (by kernel_rfl) (fun _ _ _ h => h) (Or.inl ⟨by rfl, fun w hS => by have hS' : w.cell? ⟨pf, 0, none⟩ = some (.slice (some ⟨b, o, none⟩) n cv) ∧ w.cell? ⟨w1.heap.size, 0, none⟩ = some (Sv q.x.fr) ∧ w.cell? ⟨w1.heap.size, 1, none⟩ = some (.int .u64 (q.x.ser : Int)) ∧ w.cell? ⟨w1.heap.size, 2, none⟩ = some (.int .i64 q.x.kind) ∧ w.cell? ⟨w1.heap.size, 3, none⟩ = some (.slice a1 q.x.args.length c1) ∧ w.cell? ⟨b, o, none⟩ = some (Sv m.x.fr) ∧ w.cell? ⟨b, o + 1, none⟩ = some (.int .u64 (m.x.ser : Int)) ∧ w.cell? ⟨b, o + 2, none⟩ = some (.int .i64 m.x.kind) ∧ w.cell? ⟨b, o + 3, none⟩ = some (.slice m.ad m.x.args.length m.cap) := hS; go_simp⟩) S5 ?_
  go_simp
  refine wpAnyH_take (i := 24) (v := .bool false) rfl (by kernel_rfl) (by kernel_rfl) (by kernel_rfl) (fun _ _ _ h => h) (Or.inl ⟨by rfl, fun w hS => by have hS' : w.cell? ⟨pf, 0, none⟩ = some (.slice (some ⟨b, o, none⟩) n cv) ∧ w.cell? ⟨w1.heap.size, 0, none⟩ = some (Sv q.x.fr) ∧ w.cell? ⟨w1.heap.size, 1, none⟩ = some (.int .u64 (q.x.ser : Int)) ∧ w.cell? ⟨w1.heap.size, 2, none⟩ = some (.int .i64 q.x.kind) ∧ w.cell? ⟨w1.heap.size, 3, none⟩ = some (.slice a1 q.x.args.length c1) ∧ w.cell? ⟨b, o, none⟩ = some (Sv m.x.fr) ∧ w.cell? ⟨b, o + 1, none⟩ = some (.int .u64 (m.x.ser : Int)) ∧ w.cell? ⟨b, o + 2, none⟩ = some (.int .i64 m.x.kind) ∧ w.cell? ⟨b, o + 3, none⟩ = some (.slice m.ad m.x.args.length m.cap) := hS; go_simp⟩) S5 ?_
  go_simp
  refine wpAnyH_take (i := 25) (v := .bool false) rfl (by kernel_rfl) (by kernel_rfl) (by kernel_rfl) (fun _ _ _ h => h) (Or.inl ⟨by rfl, fun w hS => by have hS' : w.cell? ⟨pf, 0, none⟩ = some (.slice (some ⟨b, o, none⟩) n cv) ∧ w.cell? ⟨w1.heap.size, 0, none⟩ = some (Sv q.x.fr) ∧ w.cell? ⟨w1.heap.size, 1, none⟩ = some (.int .u64 (q.x.ser : Int)) ∧ w.cell? ⟨w1.heap.size, 2, none⟩ = some (.int .i64 q.x.kind) ∧ w.cell? ⟨w1.heap.size, 3, none⟩ = some (.slice a1 q.x.args.length c1) ∧ w.cell? ⟨b, o, none⟩ = some (Sv m.x.fr) ∧ w.cell? ⟨b, o + 1, none⟩ = some (.int .u64 (m.x.ser : Int)) ∧ w.cell? ⟨b, o + 2, none⟩ = some (.int .i64 m.x.kind) ∧ w.cell? ⟨b, o + 3, none⟩ = some (.slice m.ad m.x.args.length m.cap) := hS; go_simp⟩) S5 ?_
  go_simp
  refine wpAnyH_take (i := 26) (v := undef) rfl (by kernel_rfl) (by kernel_rfl) (by kernel_rfl) (fun _ _ _ h => h) (Or.inr ⟨by rfl, rfl⟩) S5 ?_
  go_simp
  refine wpAnyH_take (i := 27) (v := undef) rfl (by kernel_rfl) (by kernel_rfl) (by kernel_rfl) (fun _ _ _ h => h) (Or.inr ⟨by rfl, rfl⟩) S5 ?_
  go_simp
  refine wpAnyH_take (i := 28) (v := undef) rfl (by kernel_rfl) (by kernel_rfl) (by kernel_rfl) (fun _ _ _ h => h) (Or.inr ⟨by rfl, rfl⟩) S5 ?_
  go_simp
  refine wpAnyH_take (i := 29) (v := .bool false) rfl (by kernel_rfl) (by kernel_rfl) (by kernel_rfl) (fun _ _ _ h => h) (Or.inl ⟨by rfl, fun w hS => by have hS' : w.cell? ⟨pf, 0, none⟩ = some (.slice (some ⟨b, o, none⟩) n cv) ∧ w.cell? ⟨w1.heap.size, 0, none⟩ = some (Sv q.x.fr) ∧ w.cell? ⟨w1.heap.size, 1, none⟩ = some (.int .u64 (q.x.ser : Int)) ∧ w.cell? ⟨w1.heap.size, 2, none⟩ = some (.int .i64 q.x.kind) ∧ w.cell? ⟨w1.heap.size, 3, none⟩ = some (.slice a1 q.x.args.length c1) ∧ w.cell? ⟨b, o, none⟩ = some (Sv m.x.fr) ∧ w.cell? ⟨b, o + 1, none⟩ = some (.int .u64 (m.x.ser : Int)) ∧ w.cell? ⟨b, o + 2, none⟩ = some (.int .i64 m.x.kind) ∧ w.cell? ⟨b, o + 3, none⟩ = some (.slice m.ad m.x.args.length m.cap) := hS; go_simp⟩) S5 ?_
  go_simp
  refine wpAnyH_take (i := 30) (v := .bool false) rfl (by kernel_rfl) (by kernel_rfl) (by kernel_rfl) (fun _ _ _ h => h) (Or.inl ⟨by rfl, fun w hS => by have hS' : w.cell? ⟨pf, 0, none⟩ = some (.slice (some ⟨b, o, none⟩) n cv) ∧ w.cell? ⟨w1.heap.size, 0, none⟩ = some (Sv q.x.fr) ∧ w.cell? ⟨w1.heap.size, 1, none⟩ = some (.int .u64 (q.x.ser : Int)) ∧ w.cell? ⟨w1.heap.size, 2, none⟩ = some (.int .i64 q.x.kind) ∧ w.cell? ⟨w1.heap.size, 3, none⟩ = some (.slice a1 q.x.args.length c1) ∧ w.cell? ⟨b, o, none⟩ = some (Sv m.x.fr) ∧ w.cell? ⟨b, o + 1, none⟩ = some (.int .u64 (m.x.ser : Int)) ∧ w.cell? ⟨b, o + 2, none⟩ = some (.int .i64 m.x.kind) ∧ w.cell? ⟨b, o + 3, none⟩ = some (.slice m.ad m.x.args.length m.cap) := hS; go_simp⟩) S5 ?_
  go_simp
  refine wpAnyH_take (i := 31) (v := .bool true) rfl (by kernel_rfl) (by kernel_rfl) (by kernel_rfl) (fun _ _ _ h => h) (Or.inl ⟨by rfl, fun w hS => by have hS' : w.cell? ⟨pf, 0, none⟩ = some (.slice (some ⟨b, o, none⟩) n cv) ∧ w.cell? ⟨w1.heap.size, 0, none⟩ = some (Sv q.x.fr) ∧ w.cell? ⟨w1.heap.size, 1, none⟩ = some (.int .u64 (q.x.ser : Int)) ∧ w.cell? ⟨w1.heap.size, 2, none⟩ = some (.int .i64 q.x.kind) ∧ w.cell? ⟨w1.heap.size, 3, none⟩ = some (.slice a1 q.x.args.length c1) ∧ w.cell? ⟨b, o, none⟩ = some (Sv m.x.fr) ∧ w.cell? ⟨b, o + 1, none⟩ = some (.int .u64 (m.x.ser : Int)) ∧ w.cell? ⟨b, o + 2, none⟩ = some (.int .i64 m.x.kind) ∧ w.cell? ⟨b, o + 3, none⟩ = some (.slice m.ad m.x.args.length m.cap) := hS; go_simp⟩) S5 ?_
  go_simp
  refine wpAnyH_take (i := 32) (v := .bool true) rfl (by kernel_rfl) (by kernel_rfl) (by kernel_rfl) (fun _ _ _ h => h) (Or.inl ⟨by rfl, fun w hS => by have hS' : w.cell? ⟨pf, 0, none⟩ = some (.slice (some ⟨b, o, none⟩) n cv) ∧ w.cell? ⟨w1.heap.size, 0, none⟩ = some (Sv q.x.fr) ∧ w.cell? ⟨w1.heap.size, 1, none⟩ = some (.int .u64 (q.x.ser : Int)) ∧ w.cell? ⟨w1.heap.size, 2, none⟩ = some (.int .i64 q.x.kind) ∧ w.cell? ⟨w1.heap.size, 3, none⟩ = some (.slice a1 q.x.args.length c1) ∧ w.cell? ⟨b, o, none⟩ = some (Sv m.x.fr) ∧ w.cell? ⟨b, o + 1, none⟩ = some (.int .u64 (m.x.ser : Int)) ∧ w.cell? ⟨b, o + 2, none⟩ = some (.int .i64 m.x.kind) ∧ w.cell? ⟨b, o + 3, none⟩ = some (.slice m.ad m.x.args.length m.cap) := hS; go_simp⟩) S5 ?_
  go_simp
  refine wpAnyH_take (i := 33) (v := .agg #[Sv q.x.fr, .int .u64 (q.x.ser : Int), .int .i64 q.x.kind, .slice a1 q.x.args.length c1]) rfl (by kernel_rfl) (by kernel_rfl) (by kernel_rfl) (fun _ _ _ h => h) (Or.inl ⟨by rfl, fun w hS => by have hS' : w.cell? ⟨pf, 0, none⟩ = some (.slice (some ⟨b, o, none⟩) n cv) ∧ w.cell? ⟨w1.heap.size, 0, none⟩ = some (Sv q.x.fr) ∧ w.cell? ⟨w1.heap.size, 1, none⟩ = some (.int .u64 (q.x.ser : Int)) ∧ w.cell? ⟨w1.heap.size, 2, none⟩ = some (.int .i64 q.x.kind) ∧ w.cell? ⟨w1.heap.size, 3, none⟩ = some (.slice a1 q.x.args.length c1) ∧ w.cell? ⟨b, o, none⟩ = some (Sv m.x.fr) ∧ w.cell? ⟨b, o + 1, none⟩ = some (.int .u64 (m.x.ser : Int)) ∧ w.cell? ⟨b, o + 2, none⟩ = some (.int .i64 m.x.kind) ∧ w.cell? ⟨b, o + 3, none⟩ = some (.slice m.ad m.x.args.length m.cap) := hS; go_simp⟩) S5 ?_
  go_simp
  refine wpAnyH_take (i := 34) (v := .pointer (some ⟨pf, 0, none⟩)) rfl (by kernel_rfl) (by kernel_rfl) (by kernel_rfl) (fun _ _ _ h => h) (Or.inl ⟨by rfl, fun w hS => by have hS' : w.cell? ⟨pf, 0, none⟩ = some (.slice (some ⟨b, o, none⟩) n cv) ∧ w.cell? ⟨w1.heap.size, 0, none⟩ = some (Sv q.x.fr) ∧ w.cell? ⟨w1.heap.size, 1, none⟩ = some (.int .u64 (q.x.ser : Int)) ∧ w.cell? ⟨w1.heap.size, 2, none⟩ = some (.int .i64 q.x.kind) ∧ w.cell? ⟨w1.heap.size, 3, none⟩ = some (.slice a1 q.x.args.length c1) ∧ w.cell? ⟨b, o, none⟩ = some (Sv m.x.fr) ∧ w.cell? ⟨b, o + 1, none⟩ = some (.int .u64 (m.x.ser : Int)) ∧ w.cell? ⟨b, o + 2, none⟩ = some (.int .i64 m.x.kind) ∧ w.cell? ⟨b, o + 3, none⟩ = some (.slice m.ad m.x.args.length m.cap) := hS; go_simp⟩) S5 ?_
  go_simp
  refine wpAnyH_take (i := 35) (v := .pointer (some ⟨pf, 0, none⟩)) rfl (by kernel_rfl) (by kernel_rfl) (by kernel_rfl) (fun _ _ _ h => h) (Or.inl ⟨by rfl, fun w hS => by have hS' : w.cell? ⟨pf, 0, none⟩ = some (.slice (some ⟨b, o, none⟩) n cv) ∧ w.cell? ⟨w1.heap.size, 0, none⟩ = some (Sv q.x.fr) ∧ w.cell? ⟨w1.heap.size, 1, none⟩ = some (.int .u64 (q.x.ser : Int)) ∧ w.cell? ⟨w1.heap.size, 2, none⟩ = some (.int .i64 q.x.kind) ∧ w.cell? ⟨w1.heap.size, 3, none⟩ = some (.slice a1 q.x.args.length c1) ∧ w.cell? ⟨b, o, none⟩ = some (Sv m.x.fr) ∧ w.cell? ⟨b, o + 1, none⟩ = some (.int .u64 (m.x.ser : Int)) ∧ w.cell? ⟨b, o + 2, none⟩ = some (.int .i64 m.x.kind) ∧ w.cell? ⟨b, o + 3, none⟩ = some (.slice m.ad m.x.args.length m.cap) := hS; go_simp⟩) S5 ?_
  go_simp
  refine wpAnyH_take (i := 36) (v := .pointer (some ⟨pf, 0, none⟩)) rfl (by kernel_rfl) (by kernel_rfl) (by kernel_rfl) (fun _ _ _ h => h) (Or.inl ⟨by rfl, fun w hS => by have hS' : w.cell? ⟨pf, 0, none⟩ = some (.slice (some ⟨b, o, none⟩) n cv) ∧ w.cell? ⟨w1.heap.size, 0, none⟩ = some (Sv q.x.fr) ∧ w.cell? ⟨w1.heap.size, 1, none⟩ = some (.int .u64 (q.x.ser : Int)) ∧ w.cell? ⟨w1.heap.size, 2, none⟩ = some (.int .i64 q.x.kind) ∧ w.cell? ⟨w1.heap.size, 3, none⟩ = some (.slice a1 q.x.args.length c1) ∧ w.cell? ⟨b, o, none⟩ = some (Sv m.x.fr) ∧ w.cell? ⟨b, o + 1, none⟩ = some (.int .u64 (m.x.ser : Int)) ∧ w.cell? ⟨b, o + 2, none⟩ = some (.int .i64 m.x.kind) ∧ w.cell? ⟨b, o + 3, none⟩ = some (.slice m.ad m.x.args.length m.cap) := hS; go_simp⟩) S5 ?_
  go_simp
  refine wpAnyH_take (i := 37) (v := .slice (some ⟨b, o, none⟩) n cv) rfl (by kernel_rfl) (by kernel_rfl) (by kernel_rfl) (fun _ _ _ h => h) (Or.inl ⟨by rfl, fun w hS => by have hS' : w.cell? ⟨pf, 0, none⟩ = some (.slice (some ⟨b, o, none⟩) n cv) ∧ w.cell? ⟨w1.heap.size, 0, none⟩ = some (Sv q.x.fr) ∧ w.cell? ⟨w1.heap.size, 1, none⟩ = some (.int .u64 (q.x.ser : Int)) ∧ w.cell? ⟨w1.heap.size, 2, none⟩ = some (.int .i64 q.x.kind) ∧ w.cell? ⟨w1.heap.size, 3, none⟩ = some (.slice a1 q.x.args.length c1) ∧ w.cell? ⟨b, o, none⟩ = some (Sv m.x.fr) ∧ w.cell? ⟨b, o + 1, none⟩ = some (.int .u64 (m.x.ser : Int)) ∧ w.cell? ⟨b, o + 2, none⟩ = some (.int .i64 m.x.kind) ∧ w.cell? ⟨b, o + 3, none⟩ = some (.slice m.ad m.x.args.length m.cap) := hS; go_simp⟩) S5 ?_
  go_simp
  refine wpAnyH_take (i := 38) (v := .pointer (some ⟨b, o, none⟩)) rfl (by kernel_rfl) (by kernel_rfl) (by kernel_rfl) (fun _ _ _ h => h) (Or.inl ⟨by rfl, fun w hS => by have hS' : w.cell? ⟨pf, 0, none⟩ = some (.slice (some ⟨b, o, none⟩) n cv) ∧ w.cell? ⟨w1.heap.size, 0, none⟩ = some (Sv q.x.fr) ∧ w.cell? ⟨w1.heap.size, 1, none⟩ = some (.int .u64 (q.x.ser : Int)) ∧ w.cell? ⟨w1.heap.size, 2, none⟩ = some (.int .i64 q.x.kind) ∧ w.cell? ⟨w1.heap.size, 3, none⟩ = some (.slice a1 q.x.args.length c1) ∧ w.cell? ⟨b, o, none⟩ = some (Sv m.x.fr) ∧ w.cell? ⟨b, o + 1, none⟩ = some (.int .u64 (m.x.ser : Int)) ∧ w.cell? ⟨b, o + 2, none⟩ = some (.int .i64 m.x.kind) ∧ w.cell? ⟨b, o + 3, none⟩ = some (.slice m.ad m.x.args.length m.cap) := hS; go_simp⟩) S5 ?_
  go_simp
  refine wpAnyH_take (i := 39) (v := .agg #[Sv m.x.fr, .int .u64 (m.x.ser : Int), .int .i64 m.x.kind, .slice m.ad m.x.args.length m.cap]) rfl (by kernel_rfl) (by kernel_rfl) (by kernel_rfl) (fun _ _ _ h => h) (Or.inl ⟨by rfl, fun w hS => by have hS' : w.cell? ⟨pf, 0, none⟩ = some (.slice (some ⟨b, o, none⟩) n cv) ∧ w.cell? ⟨w1.heap.size, 0, none⟩ = some (Sv q.x.fr) ∧ w.cell? ⟨w1.heap.size, 1, none⟩ = some (.int .u64 (q.x.ser : Int)) ∧ w.cell? ⟨w1.heap.size, 2, none⟩ = some (.int .i64 q.x.kind) ∧ w.cell? ⟨w1.heap.size, 3, none⟩ = some (.slice a1 q.x.args.length c1) ∧ w.cell? ⟨b, o, none⟩ = some (Sv m.x.fr) ∧ w.cell? ⟨b, o + 1, none⟩ = some (.int .u64 (m.x.ser : Int)) ∧ w.cell? ⟨b, o + 2, none⟩ = some (.int .i64 m.x.kind) ∧ w.cell? ⟨b, o + 3, none⟩ = some (.slice m.ad m.x.args.length m.cap) := hS; go_simp⟩) S5 ?_
  go_simp
  refine wpAnyH_ready (rs := [40]) (by kernel_rfl) (by simp) (AllReadyH.cons rfl (fun K hK => ?_) AllReadyH.nil)
  go_simp
  refine (H15.out _ k5).mono ?_
  rintro e w6 ⟨rfl, k6'⟩
  have k6 := k5.trans k6' (by simp)
  have S6 := HS.out _ k6
  refine hK.out _ _ S6 (fun _ => ?_)
  clear hK K
  go_simp
  refine wpAnyH_take (i := 41) (v := .bool true) rfl (by kernel_rfl) (by kernel_rfl) (by kernel_rfl) (fun _ _ _ h => h) (Or.inl ⟨by rfl, fun w hS => by have hS' : w.cell? ⟨pf, 0, none⟩ = some (.slice (some ⟨b, o, none⟩) n cv) ∧ w.cell? ⟨w1.heap.size, 0, none⟩ = some (Sv q.x.fr) ∧ w.cell? ⟨w1.heap.size, 1, none⟩ = some (.int .u64 (q.x.ser : Int)) ∧ w.cell? ⟨w1.heap.size, 2, none⟩ = some (.int .i64 q.x.kind) ∧ w.cell? ⟨w1.heap.size, 3, none⟩ = some (.slice a1 q.x.args.length c1) ∧ w.cell? ⟨b, o, none⟩ = some (Sv m.x.fr) ∧ w.cell? ⟨b, o + 1, none⟩ = some (.int .u64 (m.x.ser : Int)) ∧ w.cell? ⟨b, o + 2, none⟩ = some (.int .i64 m.x.kind) ∧ w.cell? ⟨b, o + 3, none⟩ = some (.slice m.ad m.x.args.length m.cap) := hS; go_simp⟩) S6 ?_
  go_simp
  refine wpAnyH_take (i := 42) (v := .bool true) rfl (by kernel_rfl) (by kernel_rfl) (by kernel_rfl) (fun _ _ _ h => h) (Or.inl ⟨by rfl, fun w hS => by have hS' : w.cell? ⟨pf, 0, none⟩ = some (.slice (some ⟨b, o, none⟩) n cv) ∧ w.cell? ⟨w1.heap.size, 0, none⟩ = some (Sv q.x.fr) ∧ w.cell? ⟨w1.heap.size, 1, none⟩ = some (.int .u64 (q.x.ser : Int)) ∧ w.cell? ⟨w1.heap.size, 2, none⟩ = some (.int .i64 q.x.kind) ∧ w.cell? ⟨w1.heap.size, 3, none⟩ = some (.slice a1 q.x.args.length c1) ∧ w.cell? ⟨b, o, none⟩ = some (Sv m.x.fr) ∧ w.cell? ⟨b, o + 1, none⟩ = some (.int .u64 (m.x.ser : Int)) ∧ w.cell? ⟨b, o + 2, none⟩ = some (.int .i64 m.x.kind) ∧ w.cell? ⟨b, o + 3, none⟩ = some (.slice m.ad m.x.args.length m.cap) := hS; go_simp⟩) S6 ?_
  go_simp
  refine wpAnyH_take (i := 43) (v := .bool true) rfl (by kernel_rfl) (by kernel_rfl) (by kernel_rfl) (fun _ _ _ h => h) (Or.inl ⟨by rfl, fun w hS => by have hS' : w.cell? ⟨pf, 0, none⟩ = some (.slice (some ⟨b, o, none⟩) n cv) ∧ w.cell? ⟨w1.heap.size, 0, none⟩ = some (Sv q.x.fr) ∧ w.cell? ⟨w1.heap.size, 1, none⟩ = some (.int .u64 (q.x.ser : Int)) ∧ w.cell? ⟨w1.heap.size, 2, none⟩ = some (.int .i64 q.x.kind) ∧ w.cell? ⟨w1.heap.size, 3, none⟩ = some (.slice a1 q.x.args.length c1) ∧ w.cell? ⟨b, o, none⟩ = some (Sv m.x.fr) ∧ w.cell? ⟨b, o + 1, none⟩ = some (.int .u64 (m.x.ser : Int)) ∧ w.cell? ⟨b, o + 2, none⟩ = some (.int .i64 m.x.kind) ∧ w.cell? ⟨b, o + 3, none⟩ = some (.slice m.ad m.x.args.length m.cap) := hS; go_simp⟩) S6 ?_
  go_simp
  refine wpAnyH_ready (rs := [44]) (by kernel_rfl) (by simp) (AllReadyH.cons rfl (fun K hK => ?_) AllReadyH.nil)
  go_simp
  refine hK.out _ _ S6 (fun _ => ?_)
  clear hK K
  go_simp
  refine wpAnyH_done (by kernel_rfl) ?_ _
  go_wp2_with fail
  go_ret
  exact ⟨rfl, HKD.out.trans k6 (by simp)⟩
set_option maxRecDepth 100000 in
set_option maxHeartbeats 4000000 in
theorem same16_none {w0 : World} {p pf : Nat} {v : Value} (hB : IsB w p []) (hF : IsF w0 w pf v []) : Calls Try.prog 16 #[.pointer (some ⟨p, 0, none⟩), .pointer (some ⟨pf, 0, none⟩)] w fun e w' => e = .returned (.bool true) ∧ Kept [] w w' := by
  have HB := Hid.mk hB
  have HF := Hid.mk hF
  obtain ⟨av, cv, rfl, hv1, hv2⟩ := hF.own.row.form
  have hff := first22 hB
  clear hB hF
  rw [List.length_nil] at *
  change Calls Try.prog 22 _ w (fun e w' => LetB w ⟨[], 0, 0, []⟩ false e w') at hff
  go_enter Try.func16, Try.ntmps16
  go_wp2_with fail
  refine hff.mono ?_
  rintro e w1 ⟨a1, c1, rfl, hO1, k1, hf1⟩
  change OwnsJ w1 (.slice a1 0 c1) [] at hO1
  have hF1 := HF.out.kept0 k1
  have hc1 := cell_of_one hF1.box
  have hlt : pf < w1.heap.size := hF1.lt
  clear hF1 hf1 hff
  go_wp2_with fail
  obtain ⟨W2, e2, k2, hz2, hb2⟩ := box1 w1 (.cells #[.string { data := #[] }, .int .u64 0, .int .i64 0, .slice a1 0 c1] 34)
  rw [e2]
  have kd := (k1.trans k2 (by simp)).drew
  have hBd := HB.out.kept0 kd
  have hFd := HF.out.kept0 kd
  have hOd : OwnsJ W2.drew (.slice a1 0 c1) [] := (hO1.kept k2 (by simp)).kept (Kept.refl [] W2).drew (by simp)
  have hbd : W2.drew.heap[w1.heap.size]? = some (.cells #[.string { data := #[] }, .int .u64 0, .int .i64 0, .slice a1 0 c1] 34 (0, 0)) := hb2
  have hfd := hFd.own.row
  have HS : Hid (∀ W, Kept [] W2.drew W → (W.cell? ⟨pf, 0, none⟩ = some (.slice av 0 cv) ∧ W.cell? ⟨w1.heap.size, 0, none⟩ = some (.string { data := #[] }) ∧ W.cell? ⟨w1.heap.size, 1, none⟩ = some (.int .u64 0) ∧ W.cell? ⟨w1.heap.size, 2, none⟩ = some (.int .i64 0) ∧ W.cell? ⟨w1.heap.size, 3, none⟩ = some (.slice a1 0 c1))) := fun W k => by
    obtain ⟨x0, x1, x2, x3⟩ := cells4 hbd
    exact ⟨k.cell_eq (cell_of_one hFd.box), k.cell_eq x0, k.cell_eq x1, k.cell_eq x2, k.cell_eq x3⟩
  have S0 := HS.out _ (Kept.refl [] _)
  have H21 : Hid (Calls Try.prog 21 #[.pointer (some ⟨p, 0, none⟩)] W2.drew fun e w' => e = .returned (.int .i64 0) ∧ W2.drew = w') := len21 hBd
  have H24 := Hid.mk (all24 hBd)
  have H25 : Hid (∀ W qs' v', Kept [] W2.drew W → OwnL W2.drew W v' qs' → qs'.map (·.x) = ([] : List Lq).map (·.x) → Calls Try.prog 25 #[v', .slice av 0 cv] W fun e w' => e = .returned (.bool true) ∧ Kept [] W w') := fun W qs' v' k ho hm => by
    obtain ⟨a', c', rfl, -, -⟩ := ho.row.form
    have hl' : qs' = [] := by simpa using hm
    subst hl'
    have := sameAll24 ho.row ho.vals (hfd.kept k (by simp)) (hFd.own.vals.kept0 k) (by simp) (by simp)
    rwa [decide_eq_true rfl] at this
  have H15 : Hid (∀ W, Kept [] W2.drew W → Calls Try.prog 15 #[.agg #[.string { data := #[] }, .int .u64 0, .int .i64 0, .slice a1 0 c1], .agg #[.string { data := #[] }, .int .u64 0, .int .i64 0, .slice none 0 0]] W fun e w' => e = .returned (.bool true) ∧ Kept [] W w') := fun W k => by
    have := same16 ⟨[], 0, 0, []⟩ ⟨[], 0, 0, []⟩ a1 none c1 0 (hOd.reads.kept k (by simp)) (ReadsJ.nil W) (by simp)
    rw [sameL_refl] at this
    exact this
  have HKD := Hid.mk kd
  clear hBd hFd hOd hbd hfd hc1 hb2 e2 kd hO1 k2 k1
  refine wp_region_held_drew (S := fun w' => w'.cell? ⟨pf, 0, none⟩ = some (.slice av 0 cv) ∧ w'.cell? ⟨w1.heap.size, 0, none⟩ = some (.string { data := #[] }) ∧ w'.cell? ⟨w1.heap.size, 1, none⟩ = some (.int .u64 0) ∧ w'.cell? ⟨w1.heap.size, 2, none⟩ = some (.int .i64 0) ∧ w'.cell? ⟨w1.heap.size, 3, none⟩ = some (.slice a1 0 c1)) (by kernel_rfl) S0 (fun _ => ?_)
  refine wpAnyH_take (i := 0) (v := .pointer (some ⟨p, 0, none⟩)) rfl (by kernel_rfl) (by kernel_rfl) (by kernel_rfl) (fun _ _ _ h => h) (Or.inl ⟨by rfl, fun w hS => by have hS' : w.cell? ⟨pf, 0, none⟩ = some (.slice av 0 cv) ∧ w.cell? ⟨w1.heap.size, 0, none⟩ = some (.string { data := #[] }) ∧ w.cell? ⟨w1.heap.size, 1, none⟩ = some (.int .u64 0) ∧ w.cell? ⟨w1.heap.size, 2, none⟩ = some (.int .i64 0) ∧ w.cell? ⟨w1.heap.size, 3, none⟩ = some (.slice a1 0 c1) := hS; go_simp⟩) S0 ?_
  go_simp
  refine wpAnyH_take (i := 2) (v := .pointer (some ⟨pf, 0, none⟩)) rfl (by kernel_rfl) (by kernel_rfl) (by kernel_rfl) (fun _ _ _ h => h) (Or.inl ⟨by rfl, fun w hS => by have hS' : w.cell? ⟨pf, 0, none⟩ = some (.slice av 0 cv) ∧ w.cell? ⟨w1.heap.size, 0, none⟩ = some (.string { data := #[] }) ∧ w.cell? ⟨w1.heap.size, 1, none⟩ = some (.int .u64 0) ∧ w.cell? ⟨w1.heap.size, 2, none⟩ = some (.int .i64 0) ∧ w.cell? ⟨w1.heap.size, 3, none⟩ = some (.slice a1 0 c1) := hS; go_simp⟩) S0 ?_
  go_simp
  refine wpAnyH_take (i := 3) (v := .pointer (some ⟨pf, 0, none⟩)) rfl (by kernel_rfl) (by kernel_rfl) (by kernel_rfl) (fun _ _ _ h => h) (Or.inl ⟨by rfl, fun w hS => by have hS' : w.cell? ⟨pf, 0, none⟩ = some (.slice av 0 cv) ∧ w.cell? ⟨w1.heap.size, 0, none⟩ = some (.string { data := #[] }) ∧ w.cell? ⟨w1.heap.size, 1, none⟩ = some (.int .u64 0) ∧ w.cell? ⟨w1.heap.size, 2, none⟩ = some (.int .i64 0) ∧ w.cell? ⟨w1.heap.size, 3, none⟩ = some (.slice a1 0 c1) := hS; go_simp⟩) S0 ?_
  go_simp
  refine wpAnyH_take (i := 4) (v := .pointer (some ⟨pf, 0, none⟩)) rfl (by kernel_rfl) (by kernel_rfl) (by kernel_rfl) (fun _ _ _ h => h) (Or.inl ⟨by rfl, fun w hS => by have hS' : w.cell? ⟨pf, 0, none⟩ = some (.slice av 0 cv) ∧ w.cell? ⟨w1.heap.size, 0, none⟩ = some (.string { data := #[] }) ∧ w.cell? ⟨w1.heap.size, 1, none⟩ = some (.int .u64 0) ∧ w.cell? ⟨w1.heap.size, 2, none⟩ = some (.int .i64 0) ∧ w.cell? ⟨w1.heap.size, 3, none⟩ = some (.slice a1 0 c1) := hS; go_simp⟩) S0 ?_
  go_simp
  refine wpAnyH_take (i := 5) (v := .slice av 0 cv) rfl (by kernel_rfl) (by kernel_rfl) (by kernel_rfl) (fun _ _ _ h => h) (Or.inl ⟨by rfl, fun w hS => by have hS' : w.cell? ⟨pf, 0, none⟩ = some (.slice av 0 cv) ∧ w.cell? ⟨w1.heap.size, 0, none⟩ = some (.string { data := #[] }) ∧ w.cell? ⟨w1.heap.size, 1, none⟩ = some (.int .u64 0) ∧ w.cell? ⟨w1.heap.size, 2, none⟩ = some (.int .i64 0) ∧ w.cell? ⟨w1.heap.size, 3, none⟩ = some (.slice a1 0 c1) := hS; go_simp⟩) S0 ?_
  go_simp
  refine wpAnyH_take (i := 6) (v := .int .i64 0) rfl (by kernel_rfl) (by kernel_rfl) (by kernel_rfl) (fun _ _ _ h => h) (Or.inl ⟨by rfl, fun w hS => by have hS' : w.cell? ⟨pf, 0, none⟩ = some (.slice av 0 cv) ∧ w.cell? ⟨w1.heap.size, 0, none⟩ = some (.string { data := #[] }) ∧ w.cell? ⟨w1.heap.size, 1, none⟩ = some (.int .u64 0) ∧ w.cell? ⟨w1.heap.size, 2, none⟩ = some (.int .i64 0) ∧ w.cell? ⟨w1.heap.size, 3, none⟩ = some (.slice a1 0 c1) := hS; go_simp⟩) S0 ?_
  go_simp
  refine wpAnyH_ready (rs := [1]) (by kernel_rfl) (by simp) (AllReadyH.cons rfl (fun K hK => ?_) AllReadyH.nil)
  go_simp
  refine (H21.out).mono ?_
  rintro e w3 ⟨rfl, rfl⟩
  refine hK.out _ _ S0 (fun _ => ?_)
  clear hK K
  go_simp
  refine wpAnyH_take (i := 7) (v := .bool true) rfl (by kernel_rfl) (by kernel_rfl) (by kernel_rfl) (fun _ _ _ h => h) (Or.inl ⟨by rfl, fun w hS => by have hS' : w.cell? ⟨pf, 0, none⟩ = some (.slice av 0 cv) ∧ w.cell? ⟨w1.heap.size, 0, none⟩ = some (.string { data := #[] }) ∧ w.cell? ⟨w1.heap.size, 1, none⟩ = some (.int .u64 0) ∧ w.cell? ⟨w1.heap.size, 2, none⟩ = some (.int .i64 0) ∧ w.cell? ⟨w1.heap.size, 3, none⟩ = some (.slice a1 0 c1) := hS; go_simp⟩) S0 ?_
  go_simp
  refine wpAnyH_take (i := 8) (v := .bool true) rfl (by kernel_rfl) (by kernel_rfl) (by kernel_rfl) (fun _ _ _ h => h) (Or.inl ⟨by rfl, fun w hS => by have hS' : w.cell? ⟨pf, 0, none⟩ = some (.slice av 0 cv) ∧ w.cell? ⟨w1.heap.size, 0, none⟩ = some (.string { data := #[] }) ∧ w.cell? ⟨w1.heap.size, 1, none⟩ = some (.int .u64 0) ∧ w.cell? ⟨w1.heap.size, 2, none⟩ = some (.int .i64 0) ∧ w.cell? ⟨w1.heap.size, 3, none⟩ = some (.slice a1 0 c1) := hS; go_simp⟩) S0 ?_
  go_simp
  refine wpAnyH_take (i := 9) (v := .pointer (some ⟨p, 0, none⟩)) rfl (by kernel_rfl) (by kernel_rfl) (by kernel_rfl) (fun _ _ _ h => h) (Or.inl ⟨by rfl, fun w hS => by have hS' : w.cell? ⟨pf, 0, none⟩ = some (.slice av 0 cv) ∧ w.cell? ⟨w1.heap.size, 0, none⟩ = some (.string { data := #[] }) ∧ w.cell? ⟨w1.heap.size, 1, none⟩ = some (.int .u64 0) ∧ w.cell? ⟨w1.heap.size, 2, none⟩ = some (.int .i64 0) ∧ w.cell? ⟨w1.heap.size, 3, none⟩ = some (.slice a1 0 c1) := hS; go_simp⟩) S0 ?_
  go_simp
  refine wpAnyH_take (i := 11) (v := .pointer (some ⟨pf, 0, none⟩)) rfl (by kernel_rfl) (by kernel_rfl) (by kernel_rfl) (fun _ _ _ h => h) (Or.inl ⟨by rfl, fun w hS => by have hS' : w.cell? ⟨pf, 0, none⟩ = some (.slice av 0 cv) ∧ w.cell? ⟨w1.heap.size, 0, none⟩ = some (.string { data := #[] }) ∧ w.cell? ⟨w1.heap.size, 1, none⟩ = some (.int .u64 0) ∧ w.cell? ⟨w1.heap.size, 2, none⟩ = some (.int .i64 0) ∧ w.cell? ⟨w1.heap.size, 3, none⟩ = some (.slice a1 0 c1) := hS; go_simp⟩) S0 ?_
  go_simp
  refine wpAnyH_take (i := 12) (v := .pointer (some ⟨pf, 0, none⟩)) rfl (by kernel_rfl) (by kernel_rfl) (by kernel_rfl) (fun _ _ _ h => h) (Or.inl ⟨by rfl, fun w hS => by have hS' : w.cell? ⟨pf, 0, none⟩ = some (.slice av 0 cv) ∧ w.cell? ⟨w1.heap.size, 0, none⟩ = some (.string { data := #[] }) ∧ w.cell? ⟨w1.heap.size, 1, none⟩ = some (.int .u64 0) ∧ w.cell? ⟨w1.heap.size, 2, none⟩ = some (.int .i64 0) ∧ w.cell? ⟨w1.heap.size, 3, none⟩ = some (.slice a1 0 c1) := hS; go_simp⟩) S0 ?_
  go_simp
  refine wpAnyH_take (i := 13) (v := .pointer (some ⟨pf, 0, none⟩)) rfl (by kernel_rfl) (by kernel_rfl) (by kernel_rfl) (fun _ _ _ h => h) (Or.inl ⟨by rfl, fun w hS => by have hS' : w.cell? ⟨pf, 0, none⟩ = some (.slice av 0 cv) ∧ w.cell? ⟨w1.heap.size, 0, none⟩ = some (.string { data := #[] }) ∧ w.cell? ⟨w1.heap.size, 1, none⟩ = some (.int .u64 0) ∧ w.cell? ⟨w1.heap.size, 2, none⟩ = some (.int .i64 0) ∧ w.cell? ⟨w1.heap.size, 3, none⟩ = some (.slice a1 0 c1) := hS; go_simp⟩) S0 ?_
  go_simp
  refine wpAnyH_take (i := 14) (v := .slice av 0 cv) rfl (by kernel_rfl) (by kernel_rfl) (by kernel_rfl) (fun _ _ _ h => h) (Or.inl ⟨by rfl, fun w hS => by have hS' : w.cell? ⟨pf, 0, none⟩ = some (.slice av 0 cv) ∧ w.cell? ⟨w1.heap.size, 0, none⟩ = some (.string { data := #[] }) ∧ w.cell? ⟨w1.heap.size, 1, none⟩ = some (.int .u64 0) ∧ w.cell? ⟨w1.heap.size, 2, none⟩ = some (.int .i64 0) ∧ w.cell? ⟨w1.heap.size, 3, none⟩ = some (.slice a1 0 c1) := hS; go_simp⟩) S0 ?_
  go_simp
  refine wpAnyH_ready (rs := [10]) (by kernel_rfl) (by simp) (AllReadyH.cons rfl (fun K hK => ?_) AllReadyH.nil)
  go_simp
  refine (H24.out).mono ?_
  rintro e w4 ⟨v4, rfl, qs4, hm4, hO4, k4⟩
  have S4 := HS.out _ k4
  refine hK.out _ _ S4 (fun _ => ?_)
  clear hK K
  go_simp
  refine wpAnyH_ready (rs := [15]) (by kernel_rfl) (by simp) (AllReadyH.cons rfl (fun K hK => ?_) AllReadyH.nil)
  go_simp
  refine (H25.out _ _ _ k4 hO4 hm4).mono ?_
  rintro e w5 ⟨rfl, k5'⟩
  have k5 := k4.trans k5' (by simp)
  have S5 := HS.out _ k5
  refine hK.out _ _ S5 (fun _ => ?_)
  clear hK K
  go_simp
  refine wpAnyH_take (i := 16) (v := .bool true) rfl (by kernel_rfl) (by kernel_rfl) (by kernel_rfl) (fun _ _ _ h => h) (Or.inl ⟨by rfl, fun w hS => by have hS' : w.cell? ⟨pf, 0, none⟩ = some (.slice av 0 cv) ∧ w.cell? ⟨w1.heap.size, 0, none⟩ = some (.string { data := #[] }) ∧ w.cell? ⟨w1.heap.size, 1, none⟩ = some (.int .u64 0) ∧ w.cell? ⟨w1.heap.size, 2, none⟩ = some (.int .i64 0) ∧ w.cell? ⟨w1.heap.size, 3, none⟩ = some (.slice a1 0 c1) := hS; go_simp⟩) S5 ?_
  go_simp
  refine wpAnyH_take (i := 17) (v := .bool true) rfl (by kernel_rfl) (by kernel_rfl) (by kernel_rfl) (fun _ _ _ h => h) (Or.inl ⟨by rfl, fun w hS => by have hS' : w.cell? ⟨pf, 0, none⟩ = some (.slice av 0 cv) ∧ w.cell? ⟨w1.heap.size, 0, none⟩ = some (.string { data := #[] }) ∧ w.cell? ⟨w1.heap.size, 1, none⟩ = some (.int .u64 0) ∧ w.cell? ⟨w1.heap.size, 2, none⟩ = some (.int .i64 0) ∧ w.cell? ⟨w1.heap.size, 3, none⟩ = some (.slice a1 0 c1) := hS; go_simp⟩) S5 ?_
  go_simp
  refine wpAnyH_take (i := 18) (v := .bool false) rfl (by kernel_rfl) (by kernel_rfl) (by kernel_rfl) (fun _ _ _ h => h) (Or.inl ⟨by rfl, fun w hS => by have hS' : w.cell? ⟨pf, 0, none⟩ = some (.slice av 0 cv) ∧ w.cell? ⟨w1.heap.size, 0, none⟩ = some (.string { data := #[] }) ∧ w.cell? ⟨w1.heap.size, 1, none⟩ = some (.int .u64 0) ∧ w.cell? ⟨w1.heap.size, 2, none⟩ = some (.int .i64 0) ∧ w.cell? ⟨w1.heap.size, 3, none⟩ = some (.slice a1 0 c1) := hS; go_simp⟩) S5 ?_
  go_simp
  refine wpAnyH_take (i := 19) (v := .bool false) rfl (by kernel_rfl) (by kernel_rfl) (by kernel_rfl) (fun _ _ _ h => h) (Or.inl ⟨by rfl, fun w hS => by have hS' : w.cell? ⟨pf, 0, none⟩ = some (.slice av 0 cv) ∧ w.cell? ⟨w1.heap.size, 0, none⟩ = some (.string { data := #[] }) ∧ w.cell? ⟨w1.heap.size, 1, none⟩ = some (.int .u64 0) ∧ w.cell? ⟨w1.heap.size, 2, none⟩ = some (.int .i64 0) ∧ w.cell? ⟨w1.heap.size, 3, none⟩ = some (.slice a1 0 c1) := hS; go_simp⟩) S5 ?_
  go_simp
  refine wpAnyH_take (i := 20) (v := .bool true) rfl (by kernel_rfl) (by kernel_rfl) (by kernel_rfl) (fun _ _ _ h => h) (Or.inl ⟨by rfl, fun w hS => by have hS' : w.cell? ⟨pf, 0, none⟩ = some (.slice av 0 cv) ∧ w.cell? ⟨w1.heap.size, 0, none⟩ = some (.string { data := #[] }) ∧ w.cell? ⟨w1.heap.size, 1, none⟩ = some (.int .u64 0) ∧ w.cell? ⟨w1.heap.size, 2, none⟩ = some (.int .i64 0) ∧ w.cell? ⟨w1.heap.size, 3, none⟩ = some (.slice a1 0 c1) := hS; go_simp⟩) S5 ?_
  go_simp
  refine wpAnyH_take (i := 21) (v := .bool true) rfl (by kernel_rfl) (by kernel_rfl) (by kernel_rfl) (fun _ _ _ h => h) (Or.inl ⟨by rfl, fun w hS => by have hS' : w.cell? ⟨pf, 0, none⟩ = some (.slice av 0 cv) ∧ w.cell? ⟨w1.heap.size, 0, none⟩ = some (.string { data := #[] }) ∧ w.cell? ⟨w1.heap.size, 1, none⟩ = some (.int .u64 0) ∧ w.cell? ⟨w1.heap.size, 2, none⟩ = some (.int .i64 0) ∧ w.cell? ⟨w1.heap.size, 3, none⟩ = some (.slice a1 0 c1) := hS; go_simp⟩) S5 ?_
  go_simp
  refine wpAnyH_take (i := 22) (v := .bool true) rfl (by kernel_rfl) (by kernel_rfl) (by kernel_rfl) (fun _ _ _ h => h) (Or.inl ⟨by rfl, fun w hS => by have hS' : w.cell? ⟨pf, 0, none⟩ = some (.slice av 0 cv) ∧ w.cell? ⟨w1.heap.size, 0, none⟩ = some (.string { data := #[] }) ∧ w.cell? ⟨w1.heap.size, 1, none⟩ = some (.int .u64 0) ∧ w.cell? ⟨w1.heap.size, 2, none⟩ = some (.int .i64 0) ∧ w.cell? ⟨w1.heap.size, 3, none⟩ = some (.slice a1 0 c1) := hS; go_simp⟩) S5 ?_
  go_simp
  refine wpAnyH_take (i := 23) (v := .bool false) rfl (by kernel_rfl) (by kernel_rfl) (by kernel_rfl) (fun _ _ _ h => h) (Or.inl ⟨by rfl, fun w hS => by have hS' : w.cell? ⟨pf, 0, none⟩ = some (.slice av 0 cv) ∧ w.cell? ⟨w1.heap.size, 0, none⟩ = some (.string { data := #[] }) ∧ w.cell? ⟨w1.heap.size, 1, none⟩ = some (.int .u64 0) ∧ w.cell? ⟨w1.heap.size, 2, none⟩ = some (.int .i64 0) ∧ w.cell? ⟨w1.heap.size, 3, none⟩ = some (.slice a1 0 c1) := hS; go_simp⟩) S5 ?_
  go_simp
  refine wpAnyH_take (i := 24) (v := .bool true) rfl (by kernel_rfl) (by kernel_rfl) (by kernel_rfl) (fun _ _ _ h => h) (Or.inl ⟨by rfl, fun w hS => by have hS' : w.cell? ⟨pf, 0, none⟩ = some (.slice av 0 cv) ∧ w.cell? ⟨w1.heap.size, 0, none⟩ = some (.string { data := #[] }) ∧ w.cell? ⟨w1.heap.size, 1, none⟩ = some (.int .u64 0) ∧ w.cell? ⟨w1.heap.size, 2, none⟩ = some (.int .i64 0) ∧ w.cell? ⟨w1.heap.size, 3, none⟩ = some (.slice a1 0 c1) := hS; go_simp⟩) S5 ?_
  go_simp
  refine wpAnyH_take (i := 25) (v := .bool true) rfl (by kernel_rfl) (by kernel_rfl) (by kernel_rfl) (fun _ _ _ h => h) (Or.inl ⟨by rfl, fun w hS => by have hS' : w.cell? ⟨pf, 0, none⟩ = some (.slice av 0 cv) ∧ w.cell? ⟨w1.heap.size, 0, none⟩ = some (.string { data := #[] }) ∧ w.cell? ⟨w1.heap.size, 1, none⟩ = some (.int .u64 0) ∧ w.cell? ⟨w1.heap.size, 2, none⟩ = some (.int .i64 0) ∧ w.cell? ⟨w1.heap.size, 3, none⟩ = some (.slice a1 0 c1) := hS; go_simp⟩) S5 ?_
  go_simp
  refine wpAnyH_take (i := 26) (v := .agg #[.string { data := #[] }, .int .u64 0, .int .i64 0, .slice a1 0 c1]) rfl (by kernel_rfl) (by kernel_rfl) (by kernel_rfl) (fun _ _ _ h => h) (Or.inl ⟨by rfl, fun w hS => by have hS' : w.cell? ⟨pf, 0, none⟩ = some (.slice av 0 cv) ∧ w.cell? ⟨w1.heap.size, 0, none⟩ = some (.string { data := #[] }) ∧ w.cell? ⟨w1.heap.size, 1, none⟩ = some (.int .u64 0) ∧ w.cell? ⟨w1.heap.size, 2, none⟩ = some (.int .i64 0) ∧ w.cell? ⟨w1.heap.size, 3, none⟩ = some (.slice a1 0 c1) := hS; go_simp⟩) S5 ?_
  go_simp
  refine wpAnyH_take (i := 27) (v := .agg #[.string { data := #[] }, .int .u64 0, .int .i64 0, .slice none 0 0]) rfl (by kernel_rfl) (by kernel_rfl) (by kernel_rfl) (fun _ _ _ h => h) (Or.inl ⟨by rfl, fun w hS => by have hS' : w.cell? ⟨pf, 0, none⟩ = some (.slice av 0 cv) ∧ w.cell? ⟨w1.heap.size, 0, none⟩ = some (.string { data := #[] }) ∧ w.cell? ⟨w1.heap.size, 1, none⟩ = some (.int .u64 0) ∧ w.cell? ⟨w1.heap.size, 2, none⟩ = some (.int .i64 0) ∧ w.cell? ⟨w1.heap.size, 3, none⟩ = some (.slice a1 0 c1) := hS; go_simp⟩) S5 ?_
  go_simp
  refine wpAnyH_ready (rs := [28]) (by kernel_rfl) (by simp) (AllReadyH.cons rfl (fun K hK => ?_) AllReadyH.nil)
  go_simp
  refine (H15.out _ k5).mono ?_
  rintro e w6 ⟨rfl, k6'⟩
  have k6 := k5.trans k6' (by simp)
  have S6 := HS.out _ k6
  refine hK.out _ _ S6 (fun _ => ?_)
  clear hK K
  go_simp
  refine wpAnyH_take (i := 29) (v := .bool true) rfl (by kernel_rfl) (by kernel_rfl) (by kernel_rfl) (fun _ _ _ h => h) (Or.inl ⟨by rfl, fun w hS => by have hS' : w.cell? ⟨pf, 0, none⟩ = some (.slice av 0 cv) ∧ w.cell? ⟨w1.heap.size, 0, none⟩ = some (.string { data := #[] }) ∧ w.cell? ⟨w1.heap.size, 1, none⟩ = some (.int .u64 0) ∧ w.cell? ⟨w1.heap.size, 2, none⟩ = some (.int .i64 0) ∧ w.cell? ⟨w1.heap.size, 3, none⟩ = some (.slice a1 0 c1) := hS; go_simp⟩) S6 ?_
  go_simp
  refine wpAnyH_take (i := 30) (v := .bool true) rfl (by kernel_rfl) (by kernel_rfl) (by kernel_rfl) (fun _ _ _ h => h) (Or.inl ⟨by rfl, fun w hS => by have hS' : w.cell? ⟨pf, 0, none⟩ = some (.slice av 0 cv) ∧ w.cell? ⟨w1.heap.size, 0, none⟩ = some (.string { data := #[] }) ∧ w.cell? ⟨w1.heap.size, 1, none⟩ = some (.int .u64 0) ∧ w.cell? ⟨w1.heap.size, 2, none⟩ = some (.int .i64 0) ∧ w.cell? ⟨w1.heap.size, 3, none⟩ = some (.slice a1 0 c1) := hS; go_simp⟩) S6 ?_
  go_simp
  refine wpAnyH_take (i := 31) (v := undef) rfl (by kernel_rfl) (by kernel_rfl) (by kernel_rfl) (fun _ _ _ h => h) (Or.inr ⟨by rfl, rfl⟩) S6 ?_
  go_simp
  refine wpAnyH_take (i := 32) (v := undef) rfl (by kernel_rfl) (by kernel_rfl) (by kernel_rfl) (fun _ _ _ h => h) (Or.inr ⟨by rfl, rfl⟩) S6 ?_
  go_simp
  refine wpAnyH_take (i := 33) (v := undef) rfl (by kernel_rfl) (by kernel_rfl) (by kernel_rfl) (fun _ _ _ h => h) (Or.inr ⟨by rfl, rfl⟩) S6 ?_
  go_simp
  refine wpAnyH_take (i := 34) (v := undef) rfl (by kernel_rfl) (by kernel_rfl) (by kernel_rfl) (fun _ _ _ h => h) (Or.inr ⟨by rfl, rfl⟩) S6 ?_
  go_simp
  refine wpAnyH_take (i := 35) (v := undef) rfl (by kernel_rfl) (by kernel_rfl) (by kernel_rfl) (fun _ _ _ h => h) (Or.inr ⟨by rfl, rfl⟩) S6 ?_
  go_simp
  refine wpAnyH_take (i := 36) (v := undef) rfl (by kernel_rfl) (by kernel_rfl) (by kernel_rfl) (fun _ _ _ h => h) (Or.inr ⟨by rfl, rfl⟩) S6 ?_
  go_simp
  refine wpAnyH_take (i := 37) (v := undef) rfl (by kernel_rfl) (by kernel_rfl) (by kernel_rfl) (fun _ _ _ h => h) (Or.inr ⟨by rfl, rfl⟩) S6 ?_
  go_simp
  refine wpAnyH_take (i := 38) (v := undef) rfl (by kernel_rfl) (by kernel_rfl) (by kernel_rfl) (fun _ _ _ h => h) (Or.inr ⟨by rfl, rfl⟩) S6 ?_
  go_simp
  refine wpAnyH_take (i := 39) (v := undef) rfl (by kernel_rfl) (by kernel_rfl) (by kernel_rfl) (fun _ _ _ h => h) (Or.inr ⟨by rfl, rfl⟩) S6 ?_
  go_simp
  refine wpAnyH_take (i := 40) (v := undef) rfl (by kernel_rfl) (by kernel_rfl) (by kernel_rfl) (fun _ _ _ h => h) (Or.inr ⟨by rfl, rfl⟩) S6 ?_
  go_simp
  refine wpAnyH_take (i := 41) (v := undef) rfl (by kernel_rfl) (by kernel_rfl) (by kernel_rfl) (fun _ _ _ h => h) (Or.inr ⟨by rfl, rfl⟩) S6 ?_
  go_simp
  refine wpAnyH_take (i := 42) (v := .bool true) rfl (by kernel_rfl) (by kernel_rfl) (by kernel_rfl) (fun _ _ _ h => h) (Or.inl ⟨by rfl, fun w hS => by have hS' : w.cell? ⟨pf, 0, none⟩ = some (.slice av 0 cv) ∧ w.cell? ⟨w1.heap.size, 0, none⟩ = some (.string { data := #[] }) ∧ w.cell? ⟨w1.heap.size, 1, none⟩ = some (.int .u64 0) ∧ w.cell? ⟨w1.heap.size, 2, none⟩ = some (.int .i64 0) ∧ w.cell? ⟨w1.heap.size, 3, none⟩ = some (.slice a1 0 c1) := hS; go_simp⟩) S6 ?_
  go_simp
  refine wpAnyH_take (i := 43) (v := .bool true) rfl (by kernel_rfl) (by kernel_rfl) (by kernel_rfl) (fun _ _ _ h => h) (Or.inl ⟨by rfl, fun w hS => by have hS' : w.cell? ⟨pf, 0, none⟩ = some (.slice av 0 cv) ∧ w.cell? ⟨w1.heap.size, 0, none⟩ = some (.string { data := #[] }) ∧ w.cell? ⟨w1.heap.size, 1, none⟩ = some (.int .u64 0) ∧ w.cell? ⟨w1.heap.size, 2, none⟩ = some (.int .i64 0) ∧ w.cell? ⟨w1.heap.size, 3, none⟩ = some (.slice a1 0 c1) := hS; go_simp⟩) S6 ?_
  go_simp
  refine wpAnyH_ready (rs := [44]) (by kernel_rfl) (by simp) (AllReadyH.cons rfl (fun K hK => ?_) AllReadyH.nil)
  go_simp
  refine hK.out _ _ S6 (fun _ => ?_)
  clear hK K
  go_simp
  refine wpAnyH_done (by kernel_rfl) ?_ _
  go_wp2_with fail
  go_ret
  exact ⟨rfl, HKD.out.trans k6 (by simp)⟩
theorem same16_any {w0 : World} {p pf : Nat} {v : Value} {qs ms : List Lq} (hB : IsB w p qs) (hF : IsF w0 w pf v ms) (he : qs.map (·.x) = ms.map (·.x)) : Calls Try.prog 16 #[.pointer (some ⟨p, 0, none⟩), .pointer (some ⟨pf, 0, none⟩)] w fun e w' => e = .returned (.bool true) ∧ Kept [] w w' := by
  cases ms with
  | nil =>
    obtain rfl : qs = [] := by simpa using he
    exact same16_none hB hF
  | cons m mt =>
    cases qs with
    | nil => simp at he
    | cons q t => exact same16_some hB hF he
end
end Go.Proofs.Ytpcliempoagpoaa
