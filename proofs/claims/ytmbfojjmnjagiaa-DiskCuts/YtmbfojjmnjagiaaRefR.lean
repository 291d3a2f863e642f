/-
  The document's Read.
-/
import Derived.Test.YtmbfojjmnjagiaaRef
namespace Go.Proofs.Ytmbfojjmnjagiaa
open Go.RowKit
set_option linter.unusedVariables false

/-- '[]byte(s)'. -/
theorem bytes_of (w : World) (l : List UInt8) (hl : l.length ≤ maxLen) : ∃ cap w', (convert 9 34 (.string ⟨l.toArray⟩)).run Try.prog w = .ok (.slice (some ⟨w.heap.size, 0, none⟩) l.length cap) w' ∧ Reads w' (.slice (some ⟨w.heap.size, 0, none⟩) l.length cap) l ∧ Kept [] w w' := by
  have hsz : (⟨l.toArray⟩ : ByteArray).size = l.length := by simp [ByteArray.size]
  have hrun := run_bytes_of_string (P := Try.prog) w 9 34 5 ⟨l.toArray⟩ Try.underlying9 Try.underlying34 Try.underlying5
  rw [hsz] at hrun
  refine ⟨_, _, hrun, ⟨_, _, rfl, grownCap_ge w _ _ _, grownCap_le_maxLen w _ _ _ hl, by simp, fun _ => ⟨w.heap.size, 0, rfl, fun j u hu => ?_⟩⟩, ((Kept.refl [] w).drew).alloc _⟩
  rw [Nat.zero_add, cell_of_row _ w.heap.size j _ 5 _ (heap_alloc_new w.drew _)]
  have hj : j < l.length := (List.getElem?_eq_some_iff.1 hu).1
  unfold bytesRow
  rw [Array.getElem?_append_left (by simpa using hj)]
  simp [hu, B8]

theorem zero_new (w : World) : Reads (w.alloc (.cells (C8 (zs 256)).toArray 5)) (.slice (some ⟨w.heap.size, 0, none⟩) 256 256) (zs 256) := (new_zs w).reads_all (zs_length 256)

set_option maxRecDepth 100000 in
set_option maxHeartbeats 400000 in
theorem flast_any {F : List Nat} {p : Nat} {s : St} {w : World} (hD : IsF w F p s) (i : Nat) (hb : s.ws.length ≤ 1000) :
    Calls Try.prog 34 #[.pointer (some ⟨p, 0, none⟩), .int .i64 (i : Int), .int .i64 (s.ws.length : Int)] w fun e w' => ∃ v, e = .returned v ∧ Reads w' v (blk s.ws i) ∧ Kept [] w w' := by
  have hmk := make_bytes
  have hz0 := zero_new w
  have hk0 : Kept [] w (w.alloc (.cells (C8 (zs 256)).toArray 5)) := (Kept.refl [] w).alloc _
  have HB : Hid (∀ k x, s.ws[k]? = some x → x.1 = i → free s.ws i (k + 1) → blk s.ws i = x.2) := fun k x hx hi hf => blk_at s.ws i k x hx hi hf
  have HN : Hid (free s.ws i 0 → blk s.ws i = zs 256) := fun hf => blk_none s.ws i hf
  have hok := hD.ok.ws
  generalize hbk : blk s.ws i = B at HB HN
  clear hbk
  generalize zs 256 = Z at hz0 hk0 hmk HN
  generalize hO : (Obj.cells (C8 Z).toArray 5) = O at hz0 hk0 hmk
  clear hO
  have H0 : free s.ws i s.ws.length := fun j x hj hx => by have := (List.getElem?_eq_some_iff.1 hx).1; omega
  go_enter Try.func34, Try.ntmps34
  go_wp2_with fail
  go_loop [7] (fun t => ∃ k : Nat, k ≤ s.ws.length ∧ t = .int .i64 ((k : Int) - 1) ∧ free s.ws i k) (fun t => (intOf t + 1).toNat)
  case atStart => exact ⟨s.ws.length, Nat.le_refl _, rfl, H0⟩
  case round =>
    clear H0
    obtain ⟨k, hk, rfl, hf⟩ := hrel
    have HF : Hid (free s.ws i k) := hf
    clear hf
    cases k with
    | zero =>
      have hlt : ¬ (0 : Int) ≤ -1 := by omega
      go_wp2
      go_ret
      exact ⟨_, rfl, by rw [HN.out HF.out]; exact hz0, hk0⟩
    | succ k =>
      have ei : ((k + 1 : Nat) : Int) - 1 = (k : Int) := by omega
      rw [ei]
      clear ei
      obtain ⟨x, hx⟩ : ∃ x, s.ws[k]? = some x := ⟨s.ws[k], by simp⟩
      obtain ⟨gd, cap, c0, cc, hcap, hm, _⟩ := hD.row (by omega)
      obtain ⟨c1, c2⟩ := cc k x hx
      have hm' : cap ≤ 9223372036854775807 := hm
      have h2 : (k : Int) < (s.ws.length : Int) := by omega
      by_cases he : x.1 = i
      · have hxl : x.2.length ≤ maxLen := by rw [(hok x (List.mem_of_getElem? hx)).2]; unfold maxLen; omega
        obtain ⟨cap2, w2, hcv, hr2, hk2⟩ := bytes_of w x.2 hxl
        have hB := HB.out k x hx he HF.out
        rw [← hB] at hr2 hcv
        rw [← hB] at c2
        rw [he] at c1
        generalize (⟨B.toArray⟩ : ByteArray) = S at c2 hcv
        generalize s.ws.length = n at c0 hcap hk h2
        clear cc hm hok hB hx HB HN hz0 hk0 hmk HF
        go_wp2
        go_ret
        exact ⟨_, rfl, hr2, hk2⟩
      · have hne : ((x.1 : Int) == (i : Int)) = false := by simp; omega
        have hF2 : free s.ws i k := fun j y hj hy => by
          by_cases e : j = k
          · subst e
            rw [hx] at hy
            simp at hy
            subst hy
            exact he
          · exact HF.out j y (by omega) hy
        have HF2 : Hid (free s.ws i k) := hF2
        clear hF2
        generalize x.1 = y at c1 hne
        clear cc hm hok hx HB HN hz0 hk0 hmk HF he c2
        go_wp2
        go_round
        case rel => exact ⟨k, by omega, rfl, HF2.out⟩
        case measure => simp [intOf]

theorem fread_down {F : List Nat} {p : Nat} {s : St} {w : World} (hD : IsF w F p s) (i : Int) (hd : s.down = true) : Calls Try.prog 25 #[.pointer (some ⟨p, 0, none⟩), .int .i64 i] w fun e w' => e = .returned (.tuple #[.slice none 0 0, .int .i64 9]) ∧ w = w' := by
  obtain ⟨_, c3, f3⟩ := hD.cells
  rw [hd] at c3
  clear hD hd
  go_enter Try.func25, Try.ntmps25
  go_wp2
  go_ret2
  exact ⟨rfl, rfl⟩
theorem fread_arg {F : List Nat} {p : Nat} {s : St} {w : World} (hD : IsF w F p s) (i : Int) (hd : s.down = false) (h : i < 0 ∨ (s.nb : Int) ≤ i) : Calls Try.prog 25 #[.pointer (some ⟨p, 0, none⟩), .int .i64 i] w fun e w' => e = .returned (.tuple #[.slice none 0 0, .int .i64 1]) ∧ w = w' := by
  obtain ⟨vd, hF, hbox, _⟩ := hD
  obtain ⟨c0, c1, c2, c3⟩ := cells4 hbox
  rw [hd] at c3
  generalize s.nb = b at c0 h
  clear hd hbox c1 c2
  by_cases h0 : i < 0
  · go_enter Try.func25, Try.ntmps25
    go_wp2
    go_ret2
    exact ⟨rfl, rfl⟩
  · have h1 : (b : Int) ≤ i := by omega
    go_enter Try.func25, Try.ntmps25
    go_wp2
    go_ret2
    exact ⟨rfl, rfl⟩
set_option maxRecDepth 100000 in
theorem fread_ok {F : List Nat} {p : Nat} {s : St} {w : World} (hD : IsF w F p s) (i : Nat) (hd : s.down = false) (hi : i < s.nb) (hb : s.ws.length ≤ 1000) : Calls Try.prog 25 #[.pointer (some ⟨p, 0, none⟩), .int .i64 (i : Int)] w fun e w' => ∃ v, e = .returned (.tuple #[v, .int .i64 0]) ∧ Reads w' v (blk s.ws i) ∧ Kept [] w w' := by
  have hl := flast_any hD i hb
  obtain ⟨vd, hF, hbox, hown, _⟩ := hD
  obtain ⟨a, cap, rfl⟩ := own_form hown
  obtain ⟨c0, c1, c2, c3⟩ := cells4 hbox
  rw [hd] at c3
  generalize blk s.ws i = B at hl
  generalize s.ws.length = n at c1 hl
  generalize s.nb = b at c0 hi
  clear hd hbox c2 hown
  have h0 : ¬ (i : Int) < 0 := by omega
  have h1 : ¬ (b : Int) ≤ (i : Int) := by omega
  go_enter Try.func25, Try.ntmps25
  go_wp2_with (go_at_call 34; refine hl.mono ?_; rintro e w' ⟨v, rfl, hr, hk⟩)
  go_ret2
  exact ⟨v, rfl, hr, hk⟩

/-- The document's Read. -/
theorem fread_any {F : List Nat} {p : Nat} {s : St} {w : World} (hD : IsF w F p s) (i : Int) (hb : s.ws.length ≤ 1000) :
    Calls Try.prog 25 #[.pointer (some ⟨p, 0, none⟩), .int .i64 i] w fun e w' => ∃ v, e = .returned (.tuple #[v, .int .i64 (rdE s i)]) ∧ Reads w' v (rdL s i) ∧ Kept [] w w' := by
  unfold rdL rdE
  by_cases hd : s.down = true
  · rw [if_pos hd, if_neg (by omega)]
    exact (fread_down hD i hd).mono fun e w' ⟨he, hw⟩ => ⟨_, he, Reads.nil _, hw ▸ Kept.refl [] w⟩
  rw [if_neg hd]
  have hd' : s.down = false := by simpa using hd
  by_cases h : i < 0 ∨ (s.nb : Int) ≤ i
  · rw [if_pos h, if_neg (by omega)]
    exact (fread_arg hD i hd' h).mono fun e w' ⟨he, hw⟩ => ⟨_, he, Reads.nil _, hw ▸ Kept.refl [] w⟩
  rw [if_neg h, if_pos rfl]
  obtain ⟨k, rfl⟩ := Int.eq_ofNat_of_zero_le (show 0 ≤ i by omega)
  exact (fread_ok hD k hd' (by omega) hb).mono fun e w' ⟨v, he, h1, h2⟩ => ⟨v, he, h1, h2⟩

end Go.Proofs.Ytmbfojjmnjagiaa
