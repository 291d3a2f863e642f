/-
  All of a queue.
-/
import Derived.Laws.MakeOwn
import Derived.Test.YtmjbkhcfdojpeaaQb
namespace Go.Proofs.Ytmjbkhcfdojpeaa
set_option maxRecDepth 100000
open Go.RowKit Go.Shelf
set_option linter.unusedVariables false
theorem info27 : (Try.prog.info? 27).map (fun i => (i.zero, i.size, i.bytes)) = some (some (.agg #[.string { data := #[] }, .string { data := #[] }, .int .i64 0, .int .i64 0, .int .i64 0]), 5, 56) := by kernel_rfl
theorem makeR (n : Nat) (h : n ≤ 64) (W : World) : ∃ L : List Value, L.length = n * 5 ∧ (Instr.makeSlice 47 (.int .i64 (n : Int)) (.int .i64 (n : Int))).run Try.prog W = .ok (.slice (some ⟨W.heap.size, 0, none⟩) n n) (W.alloc (.cells L.toArray 27)) := by
  obtain ⟨i0, hi, hz0, hz1, hz2⟩ := info_parts info27
  have hr := run_make (P := Try.prog) W 47 27 i0 _ Try.underlying47 hi hz0 .i64 .i64 (n : Int) (n : Int) (by omega) (Int.le_refl _) (by rw [hz2]; omega) (by omega)
  rw [hz1, Int.toNat_natCast] at hr
  obtain ⟨C, hC, hr⟩ : ∃ C : Array Value, C.size = n * 5 ∧ (Instr.makeSlice 47 (.int .i64 (n : Int)) (.int .i64 (n : Int))).run Try.prog W = .ok (.slice (some ⟨W.heap.size, 0, none⟩) n n) (W.alloc (.cells C 27)) := ⟨_, size_madeCells _ _, hr⟩
  exact ⟨C.toList, by rw [Array.length_toList, hC], by rw [Array.toArray_toList]; exact hr⟩
section
variable {w : World} {p : Nat} {Q : List Rm}
theorem all18_nil : Calls Try.prog 18 #[.pointer none] w fun e w' => e = .returned (.slice none 0 0) ∧ w = w' := by
  go_enter Try.func18, Try.ntmps18
  go_wp2_with fail
  go_ret
  exact ⟨rfl, rfl⟩
set_option maxHeartbeats 1000000 in
theorem all18 (hB : IsQ w p Q) (hQ : GoodQ Q) : Calls Try.prog 18 #[.pointer (some ⟨p, 0, none⟩)] w fun e w' => ∃ b, e = .returned (.slice (some ⟨b, 0, none⟩) Q.length Q.length) ∧ OwnsR 27 5 w' (.slice (some ⟨b, 0, none⟩) Q.length Q.length) (CR Q) ∧ Kept [] w w' ∧ w.heap.size ≤ b := by
  have HB := Hid.mk hB
  have hc := hB.count
  have hl := hB.len
  have hpl := hB.lt
  have HC : Hid (∀ x ∈ Q, ∀ W, Calls Try.prog 52 #[Rv x] W fun e w' => e = .returned (Rv x) ∧ Kept [] W w') := fun x hx W => by
    have hx := hQ.ok x hx
    have := (isKey_iff _).1 hx.ac
    have := hx.nm
    exact copyOf52 x (by omega) (by omega)
  clear hB hQ
  have hi0 : (0 : Int) ≤ (Q.length : Int) := by omega
  have hi1 : (Q.length : Int) ≤ 64 := by omega
  obtain ⟨L, hL, hmk⟩ := makeR Q.length hl w
  have HL := Hid.mk hL
  clear hL
  generalize hn : Q.length = n at *
  have HN := Hid.mk hn
  clear hn
  go_enter Try.func18, Try.ntmps18
  go_wp2_with fail
  have hg0 : (w.alloc (.cells L.toArray 27)).heap[w.heap.size]? = some (.cells L.toArray 27 (0, 0)) := heap_alloc_new w _
  have k0 := (Kept.refl [] w).alloc (.cells L.toArray 27)
  generalize w.alloc (.cells L.toArray 27) = W0 at hg0 k0 ⊢
  go_loopw [14] (fun i wr => ∃ (j : Nat), i = .int .i64 (j : Int) ∧ j ≤ n ∧ Hid (∃ R : List Value, R.length = (n - j) * 5 ∧ wr.heap[w.heap.size]? = some (.cells ((CR (Q.take j)).flatten ++ R).toArray 27 (0, 0)) ∧ Kept [] w wr)) (fun i _ => n - (intOf i).toNat)
  case atStart =>
    exact ⟨0, rfl, by omega, Hid.mk ⟨L, HL.out, hg0, k0⟩⟩
  case round =>
    obtain ⟨j, rfl, hj, hH⟩ := hrel
    by_cases hlt : j < n
    · have hjI : (j : Int) < (n : Int) := by omega
      have hj0 : (0 : Int) ≤ (j : Int) := by omega
      have hj8 : (j : Int) < 64 := by omega
      obtain ⟨R, hRl, hdb, kk⟩ := hH.out
      obtain ⟨y, hy⟩ : ∃ q, Q[j]? = some q := ⟨_, List.getElem?_eq_getElem (by have := HN.out; omega)⟩
      obtain ⟨d0, d1, d2, d3, d4⟩ := (HB.out.kept0 kk).at hy
      have HCy := Hid.mk (HC.out y (List.mem_of_getElem? hy) wr)
      have HQ := Hid.mk hy
      have HRl := Hid.mk hRl
      have HDB := Hid.mk (And.intro hdb kk)
      clear hdb kk hy hRl
      go_wp2_with fail
      refine HCy.out.mono ?_
      rintro e w2 ⟨rfl, k2⟩
      obtain ⟨hdb, kk⟩ := HDB.out
      have hb2 := k2.keeps hdb (by simp)
      have hdl : (Q.take j).length = j := by rw [List.length_take]; have := HN.out; omega
      obtain ⟨W3, e3, k3, h3, hz3⟩ := putR (o := j * 5) hb2 (Sv y.ac) (Sv y.nm) (Iv y.due) (Iv y.per) (Iv y.kind)
      have hcl : (CR (Q.take j)).flatten.length = j * 5 := by rw [CR_flat, hdl]
      have hfs : sets ((CR (Q.take j)).flatten ++ R) (j * 5) [Sv y.ac, Sv y.nm, Iv y.due, Iv y.per, Iv y.kind] = (CR (Q.take (j + 1))).flatten ++ R.drop 5 := by
        conv => lhs; rw [← List.take_append_drop 5 R]
        rw [sets_parts _ _ _ _ _ hcl.symm (by rw [List.length_take, HRl.out]; simp; omega), List.take_add_one, HQ.out, CR_append, List.flatten_append, List.append_assoc]
        congr 1
      rw [hfs] at h3
      have hcell : ∀ i, i < 5 → ∃ v, w2.cell? ⟨w.heap.size, j * 5 + i, none⟩ = some v := fun i hi => by
        have hlen : ((CR (Q.take j)).flatten ++ R).length = n * 5 := by
          rw [List.length_append, hcl, HRl.out]; omega
        exact ⟨_, cell_list hb2 (List.getElem?_eq_getElem (by rw [hlen]; omega))⟩
      obtain ⟨x0, hx0⟩ := hcell 0 (by omega)
      obtain ⟨x1, hx1⟩ := hcell 1 (by omega)
      obtain ⟨x2, hx2⟩ := hcell 2 (by omega)
      obtain ⟨x3, hx3⟩ := hcell 3 (by omega)
      obtain ⟨x4, hx4⟩ := hcell 4 (by omega)
      rw [Nat.add_zero] at hx0
      have hfz : ∀ i, w2.frozen? ⟨w.heap.size, i, none⟩ = false := fun i => by simp [World.frozen?, hb2]
      have f0 := hfz (j * 5)
      have f1 := hfz (j * 5 + 1)
      have f2 := hfz (j * 5 + 2)
      have f3 := hfz (j * 5 + 3)
      have f4 := hfz (j * 5 + 4)
      have k03 : Kept [] w W3 := (kk.trans k2 (by simp)).trans k3 (by simp)
      have HR : Hid (∃ R : List Value, R.length = (n - (j + 1)) * 5 ∧ W3.heap[w.heap.size]? = some (.cells ((CR (Q.take (j + 1))).flatten ++ R).toArray 27 (0, 0)) ∧ Kept [] w W3) := ⟨R.drop 5, by rw [List.length_drop, HRl.out]; omega, h3, k03⟩
      clear d0 d1 d2 d3 d4 hcell hfz h3 hfs hcl hdl hdb kk hb2 k03
      go_wp2_with fail
      go_roundw
      case rel => exact ⟨j + 1, by go_num, by omega, HR⟩
      case measure => simp [intOf]; omega
    · obtain rfl : j = n := by omega
      obtain ⟨R, hRl, hdb, kk⟩ := hH.out
      have HDB := Hid.mk (And.intro hRl hdb)
      clear hRl hdb
      go_wp2_with fail
      go_ret
      obtain ⟨hRl, hdb⟩ := HDB.out
      rw [Nat.sub_self, Nat.zero_mul] at hRl
      rw [List.eq_nil_of_length_eq_zero hRl, List.append_nil, List.take_of_length_le (by have := HN.out; omega)] at hdb
      exact ⟨_, rfl, ownsR_block hdb (CR_wide Q) (by rw [CR_length]; exact HN.out) (by unfold maxLen; omega), kk, Nat.le_refl _⟩
end
end Go.Proofs.Ytmjbkhcfdojpeaa
