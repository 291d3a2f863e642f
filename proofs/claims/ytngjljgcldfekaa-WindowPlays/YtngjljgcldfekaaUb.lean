/-
  Rows of numbers of 64 bits; Same, slices.Index, slices.Contains and slices.Clone of them.
-/
import Derived.Test.YtngjljgcldfekaaRs
import Derived.BigQuiet
namespace Go.Proofs.Ytngjljgcldfekaa
open Go.RowKit
set_option linter.unusedVariables false
/-- A number of 64 bits. -/
def U64 (n : Nat) : Prop := n < 18446744073709551616
/-- A number as a value. -/
abbrev Uv (n : Nat) : Value := .int .u64 (n : Int)
/-- Numbers as rows of one cell. -/
def CU (l : List Nat) : List (List Value) := l.map fun z => [Uv z]
theorem CU_length (l : List Nat) : (CU l).length = l.length := by simp [CU]
theorem CU_append (a b : List Nat) : CU (a ++ b) = CU a ++ CU b := by simp [CU]
theorem CU_wide (l : List Nat) : Wide 1 (CU l) := fun r hr => by
  obtain ⟨z, _, rfl⟩ := List.mem_map.1 hr
  exact ⟨rfl, fun u hu => by simp at hu; subst hu; rfl⟩
theorem CU_flat (l : List Nat) : (CU l).flatten = l.map Uv := by
  induction l with
  | nil => rfl
  | cons x l ih => rw [CU, List.map_cons, List.flatten_cons, List.map_cons, ← ih]; rfl
/-- The slice v reads as the numbers l. -/
def ReadsU (w : World) (v : Value) (l : List Nat) : Prop := ReadsR 1 w v (CU l)
theorem ReadsU.nil (w : World) : ReadsU w (.slice none 0 0) [] := ReadsR.nil 1 w
theorem ReadsU.kept {S : List Nat} {w w' : World} {v : Value} {l : List Nat} (h : ReadsU w v l) (k : Kept S w w') (hn : ∀ g, v.ownBlock = some g → g ∉ S) : ReadsU w' v l := ReadsR.kept h k hn
theorem ReadsU.kept0 {w w' : World} {v : Value} {l : List Nat} (h : ReadsU w v l) (k : Kept [] w w') : ReadsU w' v l := ReadsR.kept h k (by simp)
theorem ReadsU.form {w : World} {v : Value} {l : List Nat} (h : ReadsU w v l) : ∃ a c, v = .slice a l.length c ∧ l.length ≤ c ∧ c ≤ 9223372036854775807 := by
  have := ReadsR.form h
  rwa [CU_length] at this
theorem ReadsU.bound {w : World} {a : Option Addr} {n c : Nat} {l : List Nat} (h : ReadsU w (.slice a n c) l) : n = l.length ∧ n ≤ c ∧ c ≤ 9223372036854775807 := by
  obtain ⟨a', c', e, h1, h2⟩ := h.form
  injection e with _ e2 e3
  subst e2 e3
  exact ⟨rfl, h1, h2⟩
theorem ReadsU.at {w : World} {a : Option Addr} {n c : Nat} {l : List Nat} (h : ReadsU w (.slice a n c) l) {j : Nat} {z : Nat} (hz : l[j]? = some z) : ∃ b o, a = some ⟨b, o, none⟩ ∧ w.cell? ⟨b, o + j, none⟩ = some (Uv z) := by
  obtain ⟨b, o, c', e, hc⟩ := ReadsR.at h j [Uv z] (by simp [CU, hz])
  injection e with e _ _
  have h0 := hc 0 _ rfl
  rw [Nat.add_zero, Nat.mul_one] at h0
  exact ⟨b, o, e, h0⟩
/-- The slice v owns the numbers l. -/
def OwnsU (w : World) (v : Value) (l : List Nat) : Prop := OwnsR 30 1 w v (CU l)
theorem OwnsU.nil (w : World) : OwnsU w (.slice none 0 0) [] := OwnsR.nil 30 1 w
theorem OwnsU.reads {w : World} {v : Value} {l : List Nat} (h : OwnsU w v l) : ReadsU w v l := OwnsR.reads h (CU_wide l)
theorem OwnsU.kept {S : List Nat} {w w' : World} {v : Value} {l : List Nat} (h : OwnsU w v l) (k : Kept S w w') (hn : ∀ g, v.ownBlock = some g → g ∉ S) : OwnsU w' v l := OwnsR.kept h k hn
theorem OwnsU.kept0 {w w' : World} {v : Value} {l : List Nat} (h : OwnsU w v l) (k : Kept [] w w') : OwnsU w' v l := OwnsR.kept h k (by simp)
theorem OwnsU.form {w : World} {v : Value} {l : List Nat} (h : OwnsU w v l) : ∃ a c, v = .slice a l.length c ∧ l.length ≤ c ∧ c ≤ 9223372036854775807 := by
  have := OwnsR.form h
  rwa [CU_length] at this
theorem OwnsU.lt {w : World} {v : Value} {l : List Nat} (h : OwnsU w v l) {g : Nat} (hg : v.ownBlock = some g) : g < w.heap.size := OwnsR.lt h hg
theorem rt42 : RowT 42 30 1 8 (.int .u64 0) := ⟨Try.underlying42, by kernel_rfl, rfl, by omega, by omega⟩
/-- 'append([]uint64{}, v...)', as its run. -/
theorem cloneU {w : World} {v : Value} {l : List Nat} (h : ReadsU w v l) (hl : l.length ≤ 1000) : ∃ ad c w', (Builtin.append_ #[42, 42] 42 #[.slice (some ⟨w.heap.size, 0, none⟩) 0 0, v]).run Try.prog (w.alloc (.cells #[] 30)) = .ok (.slice ad l.length c) w' ∧ OwnsU w' (.slice ad l.length c) l ∧ Kept [] w w' ∧ Fresh w (.slice ad l.length c) := by
  have hO : OwnsR 30 1 (w.alloc (.cells #[] 30)) (.slice (some ⟨w.heap.size, 0, none⟩) 0 0) [] := World.ownsRow_made (base := 0) (e := 30) (size := 1) w #[] 0 (Nat.zero_le _) (by simp) (by simp)
  have k1 := (Kept.refl [] w).alloc (.cells #[] 30)
  obtain ⟨a2, c2, w2, hrun, ho, hg, hN⟩ := run_appendR rt42 _ 42 _ [] hO _ (CU l) (CU_wide l) (h.kept0 k1) (by rw [CU_length]; simp; omega)
  rw [List.nil_append, List.length_nil, Nat.zero_add, CU_length] at *
  refine ⟨a2, c2, w2, hrun, ho, k1.grown hg (by simp [Value.ownBlock]), fun g hg' => ?_⟩
  rcases hN g hg' with h | h
  · simp [Value.ownBlock] at h; omega
  · have := k1.size; omega
section
variable {w : World}
set_option maxRecDepth 100000 in
set_option maxHeartbeats 1000000 in
theorem clone29 {v : Value} {l : List Nat} (h : ReadsU w v l) (hl : l.length ≤ 1000) (hv : ∃ b o n c, v = .slice (some ⟨b, o, none⟩) n c) : Calls Try.prog 29 #[v] w fun e w' => ∃ v', e = .returned v' ∧ OwnsU w' v' l ∧ Kept [] w w' ∧ Fresh w v' := by
  obtain ⟨b, o, n, c, rfl⟩ := hv
  obtain ⟨a2, c2, w2, hrun, ho, hk, hf⟩ := cloneU h hl
  have HH : Hid (OwnsU w2 (.slice a2 l.length c2) l ∧ Kept [] w w2 ∧ Fresh w (.slice a2 l.length c2)) := ⟨ho, hk, hf⟩
  have heq := fun w : World => Lib.run_eql_slice_nil (P := Try.prog) w 42 30 (some ⟨b, o, none⟩) n c 0 0 Try.underlying42
  clear ho hk hf h
  go_enter Try.func29, Try.ntmps29
  go_wp2_with (at_builtin; refine wpList_append_run 42 42 _ _ rfl (by rfl) _ _ rfl rfl _ _ hrun ?_)
  go_ret
  exact ⟨_, rfl, HH.out⟩
set_option maxRecDepth 100000 in
set_option maxHeartbeats 1000000 in
theorem index50 {a : Option Addr} {n c : Nat} {l : List Nat} (h : ReadsU w (.slice a n c) l) (x : Nat) : Calls Try.prog 50 #[.slice a n c, Uv x] w fun e w' => (∃ z : Int, e = .returned (.int .i64 z) ∧ decide (0 ≤ z) = decide (x ∈ l)) ∧ w = w' := by
  obtain ⟨hn, hc1, hc2⟩ := h.bound
  have HN := Hid.mk hn
  have HR := Hid.mk h
  have HY : Hid (∀ z : Int, 0 ≤ z → x ∈ l → decide (0 ≤ z) = decide (x ∈ l)) := fun z h h' => by simp [h, h']
  have HO : Hid (x ∉ l → decide (0 ≤ (-1 : Int)) = decide (x ∈ l)) := fun h' => by simp [h']
  generalize decide (x ∈ l) = D at HY HO
  clear h hn
  go_enter Try.func50, Try.ntmps50
  go_wp2_with fail
  go_loopw [8] (fun i wr => ∃ j : Nat, i = .int .i64 (j : Int) ∧ j ≤ n ∧ Hid (x ∉ l.take j) ∧ Hid (w = wr)) (fun i _ => n - (intOf i).toNat)
  case atStart => exact ⟨0, rfl, by omega, Hid.mk (by simp), Hid.mk rfl⟩
  case round =>
    obtain ⟨j, rfl, hj, ht, kk⟩ := hrel
    obtain rfl := kk.out
    clear kk
    by_cases hlt : j < n
    · obtain ⟨q, hq⟩ : ∃ q, l[j]? = some q := ⟨_, List.getElem?_eq_getElem (by have := HN.out; omega)⟩
      obtain ⟨b, o, rfl, d0⟩ := HR.out.at hq
      have HQ := Hid.mk hq
      clear hq
      have hjI : (j : Int) < (n : Int) := by omega
      by_cases hx : x = q
      · have g1 : ((x : Int) == (q : Int)) = true := by simp [hx]
        have hm : x ∈ l := by rw [hx]; exact List.mem_of_getElem? HQ.out
        have HM := Hid.mk hm
        clear hx hm
        go_wp2_with fail
        go_ret
        exact ⟨⟨_, rfl, HY.out _ (by omega) HM.out⟩, rfl⟩
      · have g1 : ((x : Int) == (q : Int)) = false := by simp; omega
        have HX := Hid.mk hx
        clear hx
        go_wp2_with fail
        go_roundw
        case rel =>
          refine ⟨j + 1, by go_num, by omega, Hid.mk ?_, by trivial⟩
          rw [List.take_add_one, HQ.out]
          simp only [Option.toList_some, List.mem_append, List.mem_singleton, not_or]
          exact ⟨ht.out, HX.out⟩
        case measure => simp [intOf]; omega
    · obtain rfl : j = n := by omega
      have hno : x ∉ l := by
        have := ht.out
        rwa [List.take_of_length_le (by rw [← HN.out]; exact Nat.le_refl _)] at this
      have HH := Hid.mk hno
      clear hno
      go_wp2_with fail
      go_ret
      exact ⟨⟨_, rfl, HO.out HH.out⟩, rfl⟩
set_option maxRecDepth 100000 in
set_option maxHeartbeats 1000000 in
theorem contains44 {a : Option Addr} {n c : Nat} {l : List Nat} (h : ReadsU w (.slice a n c) l) (x : Nat) : Calls Try.prog 44 #[.slice a n c, Uv x] w fun e w' => e = .returned (.bool (decide (x ∈ l))) ∧ w = w' := by
  have HI := Hid.mk (index50 h x)
  clear h
  generalize decide (x ∈ l) = D at HI
  go_enter Try.func44, Try.ntmps44
  go_wp2_with fail
  refine HI.out.mono ?_
  rintro e w1 ⟨⟨z, rfl, hz⟩, rfl⟩
  subst hz
  go_wp2_with fail
  go_ret
  exact ⟨rfl, rfl⟩
set_option maxRecDepth 100000 in
set_option maxHeartbeats 1000000 in
theorem same16 {a a' : Option Addr} {n n' c c' : Nat} {l l' : List Nat} (h : ReadsU w (.slice a n c) l) (h' : ReadsU w (.slice a' n' c') l') (he : l = l') : Calls Try.prog 16 #[.slice a n c, .slice a' n' c'] w fun e w' => e = .returned (.bool true) ∧ Kept [] w w' := by
  subst he
  obtain ⟨hn, hc1, hc2⟩ := h.bound
  obtain ⟨hn', hc1', hc2'⟩ := h'.bound
  obtain rfl : n' = n := by omega
  have HN := Hid.mk hn
  have HR := Hid.mk h
  have HR' := Hid.mk h'
  clear h hn h' hn'
  have hnn : ((n' : Int) != (n' : Int)) = false := by simp
  go_enter Try.func16, Try.ntmps16
  go_wp2_with fail
  go_loopw [13] (fun i wr => ∃ j : Nat, i = .int .i64 (j : Int) ∧ j ≤ n' ∧ Hid (Kept [] w wr)) (fun i _ => n' - (intOf i).toNat)
  case atStart => exact ⟨0, rfl, by omega, Hid.mk (Kept.refl [] w)⟩
  case round =>
    obtain ⟨j, rfl, hj, kk⟩ := hrel
    by_cases hlt : j < n'
    · obtain ⟨q, hq⟩ : ∃ q, l[j]? = some q := ⟨_, List.getElem?_eq_getElem (by have := HN.out; omega)⟩
      obtain ⟨b, o, rfl, d0⟩ := (HR.out.kept0 kk.out).at hq
      obtain ⟨b', o', rfl, d0'⟩ := (HR'.out.kept0 kk.out).at hq
      clear hq
      have hjI : (j : Int) < (n' : Int) := by omega
      have hj0 : (0 : Int) ≤ (j : Int) := by omega
      have hqq : ((q : Int) != (q : Int)) = false := by simp
      have d1 : wr.drew.cell? ⟨b, o + j, none⟩ = some (Uv q) := d0
      have d1' : wr.drew.cell? ⟨b', o' + j, none⟩ = some (Uv q) := d0'
      go_wp2_with fail
      go_quiet (fail)
      go_wp2_with fail
      go_roundw
      case rel => exact ⟨j + 1, by go_num, by omega, Hid.mk (kk.out.drewN _)⟩
      case measure => simp [intOf]; omega
    · obtain rfl : j = n' := by omega
      go_wp2_with fail
      go_ret
      exact ⟨rfl, kk.out⟩
end
end Go.Proofs.Ytngjljgcldfekaa
