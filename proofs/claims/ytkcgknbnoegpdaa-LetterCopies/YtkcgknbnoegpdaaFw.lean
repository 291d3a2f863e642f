/-
  few, and awake.
-/
import Derived.Test.YtkcgknbnoegpdaaEn
namespace Go.Proofs.Ytkcgknbnoegpdaa
open Go.RowKit
set_option linter.unusedVariables false
section
variable {w : World}
/-- Letters of a size that is looked at. -/
def FewQ (l : List Lq) : Prop := l.length ≤ 301 ∧ ∀ q ∈ l, q.x.fr.length ≤ 1000 ∧ q.x.args.length ≤ 1000
/-- What few answers. -/
def FewAt (l : List Lq) (w : World) (e : Ending) (w' : World) : Prop := ∃ b : Bool, e = .returned (.bool b) ∧ (b = true → FewQ l) ∧ Kept [] w w'
theorem few_yes {l : List Lq} {w w' : World} (h : FewQ l) (k : Kept [] w w') : FewAt l w (.returned (.bool true)) w' := ⟨true, rfl, fun _ => h, k⟩
theorem few_no {l : List Lq} {w w' : World} (k : Kept [] w w') : FewAt l w (.returned (.bool false)) w' := ⟨false, rfl, (fun h => Bool.noConfusion h), k⟩
/-- A new block of rows reads as them. -/
theorem reads_rows {k : Nat} (w : World) (rs : List (List Value)) (hw : Wide k rs) (hl : rs.length ≤ maxLen) (t : TypeId) (fr : Nat × Nat) : ReadsR k (w.alloc (.cells rs.flatten.toArray t fr)) (.slice (some ⟨w.heap.size, 0, none⟩) rs.length rs.length) rs := by
  have hh : (w.alloc (.cells rs.flatten.toArray t fr)).heap[w.heap.size]? = some (.cells rs.flatten.toArray t fr) := heap_alloc_new w _
  refine ⟨_, rs.length, rfl, Nat.le_refl _, hl, by simp, fun _ => ⟨w.heap.size, 0, rfl, fun j u hu i x hx => ?_⟩⟩
  have := hw.at j u hu i x hx
  unfold World.cell?
  rw [hh]
  simpa using this
theorem rowQ_new (w : World) (l : List Lq) (hl : l.length ≤ 1000) (t : TypeId) (fr : Nat × Nat) : RowQ (w.alloc (.cells (CQ l).flatten.toArray t fr)) (.slice (some ⟨w.heap.size, 0, none⟩) l.length l.length) l := by
  have := reads_rows w (CQ l) (CQ_wide l) (by rw [CQ_length]; unfold maxLen; omega) t fr
  rwa [CQ_length] at this
set_option maxRecDepth 100000 in
set_option maxHeartbeats 1000000 in
theorem few10 {a : Option Addr} {n c : Nat} {l : List Lq} (hr : RowQ w (.slice a n c) l) : Calls Try.prog 10 #[.slice a n c] w fun e w' => FewAt l w e w' := by
  obtain ⟨hn, hc1, hc2⟩ := hr.bound
  have HN := Hid.mk hn
  have HR := Hid.mk hr
  clear hr hn
  have HY : Hid (∀ W, FewQ l → Kept [] w W → FewAt l w (.returned (.bool true)) W) := fun W => few_yes
  have HO : Hid (∀ W, Kept [] w W → FewAt l w (.returned (.bool false)) W) := fun W => few_no
  generalize FewAt l w = R at HY HO
  go_enter Try.func10, Try.ntmps10
  go_wp2_with fail
  go_loopw [6] (fun i wr => ∃ j : Nat, i = .int .i64 (j : Int) ∧ j ≤ n ∧ Hid (j ≤ 301 ∧ ∀ q ∈ l.take j, q.x.fr.length ≤ 1000 ∧ q.x.args.length ≤ 1000) ∧ Hid (w = wr)) (fun i _ => n - (intOf i).toNat)
  case atStart => exact ⟨0, rfl, by omega, Hid.mk ⟨by omega, by simp⟩, Hid.mk rfl⟩
  case round =>
    obtain ⟨j, rfl, hj, ht, kk⟩ := hrel
    obtain rfl := kk.out
    clear kk
    by_cases hlt : j < n
    · obtain ⟨q, hq⟩ : ∃ q, l[j]? = some q := ⟨_, List.getElem?_eq_getElem (by have := HN.out; omega)⟩
      obtain ⟨b, o, rfl, d0, d1, d2, d3⟩ := HR.out.at hq
      have HQ := Hid.mk hq
      clear hq
      have hjI : (j : Int) < (n : Int) := by omega
      by_cases h1 : 1000 < q.x.fr.length
      · have g1 : (1000 : Int) < (q.x.fr.length : Int) := by omega
        go_wp2_with fail
        exact HO.out _ (Kept.refl [] _)
      · have g1 : ((1000 : Int) < (q.x.fr.length : Int)) = False := eq_false (by omega)
        by_cases h2 : 1000 < q.x.args.length
        · have g2 : (1000 : Int) < (q.x.args.length : Int) := by omega
          go_wp2_with fail
          exact HO.out _ (Kept.refl [] _)
        · have g2 : ((1000 : Int) < (q.x.args.length : Int)) = False := eq_false (by omega)
          by_cases h3 : 300 < j
          · have g3 : (300 : Int) < (j : Int) := by omega
            go_wp2_with fail
            exact HO.out _ (Kept.refl [] _)
          · have g3 : ((300 : Int) < (j : Int)) = False := eq_false (by omega)
            go_wp2_with fail
            go_roundw
            case rel =>
              refine ⟨j + 1, by go_num, by omega, Hid.mk ⟨by omega, fun y hy => ?_⟩, by trivial⟩
              rw [List.take_add_one, HQ.out] at hy
              rcases List.mem_append.1 hy with h | h
              · exact ht.out.2 y h
              · simp at h
                subst h
                exact ⟨by omega, by omega⟩
            case measure => simp [intOf]; omega
    · obtain rfl : j = n := by omega
      go_wp2
      refine HY.out _ ⟨?_, ?_⟩ (Kept.refl [] _)
      · have := ht.out.1
        have := HN.out
        omega
      · have := ht.out.2
        rwa [List.take_of_length_le (by rw [← HN.out]; exact Nat.le_refl _)] at this
set_option maxRecDepth 100000 in
set_option maxHeartbeats 1000000 in
theorem awake9 : Calls Try.prog 9 #[] w fun e w' => e = .returned (.bool true) ∧ Kept [] w w' := by
  have hx : ReadsJ (w.alloc (.cells #[.int .i64 (-1)] 2)) (.slice (some ⟨w.heap.size, 0, none⟩) 1 1) [-1] := reads_newR (k := 1) w [.int .i64 (-1)] rfl 2 (0, 0)
  have hE := encode11 (w := w.alloc (.cells #[.int .i64 (-1)] 2)) ⟨[97], 1, 5, [-1]⟩ (some ⟨w.heap.size, 0, none⟩) 1 hx ⟨by decide, by unfold I64; decide, by intro z hz; simp at hz; subst hz; unfold I64; decide⟩
  have eB : encB ⟨[97], 1, 5, [-1]⟩ = [1, 97, 1, 10, 1, 1] := by decide
  have eE : encE ⟨[97], 1, 5, [-1]⟩ = 0 := by decide
  rw [eB, eE] at hE
  have k0 := (Kept.refl [] w).alloc (.cells #[.int .i64 (-1)] 2)
  have HF : Hid (∀ W, Calls Try.prog 13 #[.agg #[.string ⟨#[]⟩, .int .u64 0, .int .i64 0, .slice none 0 0]] W fun e w' => e = .returned (.bool true) ∧ Kept [] W w') := fun W => formed13 ⟨[], 0, 0, []⟩ none 0
  go_enter Try.func9, Try.ntmps9
  go_wp2_with fail
  refine Calls.mono hE ?_
  rintro e w1 ⟨v1, rfl, hO, k1, hf⟩
  have k01 := k0.trans k1 (by simp)
  have hst := string_of (P := Try.prog) 29 5 Try.underlying29 9 Try.underlying5 Try.underlying9 v1 _ w1 hO.reads
  go_wp2_with fail
  refine (HF.out _).mono ?_
  rintro e w2 ⟨rfl, k2⟩
  go_wp2_with fail
  go_ret
  exact ⟨rfl, k01.trans k2 (by simp)⟩
end
end Go.Proofs.Ytkcgknbnoegpdaa
