/-
  Read of a disk.
-/
import Derived.Test.YtilelklcfgemoaaDAsk2
namespace Go.Proofs.Ytilelklcfgemoaa
open Go.RowKit
set_option linter.unusedVariables false
theorem make_bytes (W : World) : (Instr.makeSlice 31 (.int .i64 256) (.int .i64 256)).run Try.prog W = .ok (.slice (some ⟨W.heap.size, 0, none⟩) 256 256) (W.alloc (.cells (C8 (zs 256)).toArray 5)) := by
  obtain ⟨i0, hi, hz0, hz1, hz2⟩ := info_parts inf5
  have h := run_make (P := Try.prog) W 31 5 i0 _ Try.underlying31 hi hz0 .i64 .i64 256 256 (by omega) (by omega) (by rw [hz2]; omega) (by omega)
  rw [h]
  have e : madeCells (Value.int .u8 0).cells (Int.toNat 256 * i0.size) = (C8 (zs 256)).toArray := by
    rw [hz1]
    apply Array.toList_inj.1
    rw [show (Value.int .u8 0).cells = #[.int .u8 0] from rfl, toList_madeCells_one]
    have e0 : B8 0 = .int .u8 0 := by simp [B8]
    show _ = List.map B8 (List.replicate 256 0)
    rw [List.map_replicate, e0]
    rfl
  rw [e]
  rfl
theorem add_at (b o j : Nat) : (⟨b, o, none⟩ : Addr).add j = ⟨b, o + j, none⟩ := by unfold Addr.add; split <;> simp_all
/-- 'copy' over a whole row. -/
theorem copy_all (w : World) (g : Nat) (L p : List UInt8) (a : Option Addr) (cap : Nat) (hR : Row w g L) (hL : L.length = 256) (hr : Reads w (.slice a 256 cap) p) (hp : p.length = 256) :
    ∃ w', (Builtin.copy_ #[31, 31] 3 #[.slice (some ⟨g, 0, none⟩) 256 256, .slice a 256 cap]).run Try.prog w = .ok (.int .i64 256) w' ∧ Row w' g p ∧ Kept [g] w w' := by
  obtain ⟨i0, hi, hz0, hz1, hz2⟩ := info_parts inf5
  have hs : (Try.prog.info? 5).map (·.size) = some 1 := by rw [hi]; simp [hz1]
  rcases reads_cases hr with ⟨a', c', he, rfl, _⟩ | ⟨b, q, c', he, hh1, hh2, hc⟩
  · simp at hp
  · injection he with e1 e2 e3
    subst e1 e3
    have hrun := run_copy_row (P := Try.prog) w 31 31 3 5 g 0 256 256 ⟨b, q, none⟩ 256 cap (C8 L).toArray 5 (C8 p) Try.underlying31 hs hR (by rw [C8_length, hp]; rfl) (fun j v hv => by
      simp only [C8, List.getElem?_map, Option.map_eq_some_iff] at hv
      obtain ⟨u, hu, rfl⟩ := hv
      rw [add_at]
      exact hc j u hu) (by rw [List.size_toArray, C8_length, C8_length, hL, hp]; omega) (C8_one p)
    rw [C8_length, hp] at hrun
    refine ⟨_, hrun, ?_, ⟨rfl, rfl, rfl, by simp [World.setRow], fun k hk hn => setRow_other w g k _ (by intro e; subst e; simp at hn)⟩⟩
    unfold Row
    rw [setRow_heap w g _ _ 5 _ hR]
    have e : (C8 L).take 0 ++ C8 p ++ (C8 L).drop (0 + 256) = C8 p := by
      rw [List.drop_of_length_le (by rw [C8_length, hL]; omega)]
      simp
    rw [e]
theorem read_down {F : List Nat} {p : Nat} {s : St} {w : World} (hD : IsD w F p s) (i : Int) (hd : s.down = true) : Calls Try.prog 49 #[.pointer (some ⟨p, 0, none⟩), .int .i64 i] w fun e w' => e = .returned (.tuple #[.slice none 0 0, .int .i64 9]) ∧ w = w' := by
  have h1 := down_any hD
  rw [hd] at h1
  clear hD hd
  go_enter Try.func49, Try.ntmps49
  go_wp2_with (go_at_call 27; refine h1.mono ?_; rintro e w' ⟨rfl, rfl⟩)
  go_ret2
  exact ⟨rfl, rfl⟩
theorem read_arg {F : List Nat} {p : Nat} {s : St} {w : World} (hD : IsD w F p s) (i : Int) (hd : s.down = false) (h : i < 0 ∨ (s.nb : Int) ≤ i) : Calls Try.prog 49 #[.pointer (some ⟨p, 0, none⟩), .int .i64 i] w fun e w' => e = .returned (.tuple #[.slice none 0 0, .int .i64 1]) ∧ w = w' := by
  have h1 := down_any hD
  rw [hd] at h1
  have h2 := has_no hD i h
  clear hD hd h
  go_enter Try.func49, Try.ntmps49
  go_wp2_with (first | (go_at_call 27; refine h1.mono ?_; rintro e w' ⟨rfl, rfl⟩) | (go_at_call 58; refine h2.mono ?_; rintro e w' ⟨rfl, rfl⟩))
  go_ret2
  exact ⟨rfl, rfl⟩
theorem new_zs (w : World) : Row (w.alloc (.cells (C8 (zs 256)).toArray 5)) w.heap.size (zs 256) := heap_alloc_new w _
theorem IsD.lastCell {F : List Nat} {p : Nat} {s : St} {w : World} (hD : IsD w F p s) (i : Nat) (hi : i < s.nb) : ∃ g, w.cell? ⟨p, 1, none⟩ = some (.slice (some ⟨g, 0, none⟩) s.nb s.nb) ∧ w.cell? ⟨g, i, none⟩ = some (.int .i64 (lastN s.ws i : Int)) := by
  obtain ⟨vd, g, hF, hbox, hown, hlast, _⟩ := hD
  refine ⟨g, (cells4 hbox).2.1, ?_⟩
  rw [cell_of_row w g i _ 3 (0, 0) hlast]
  simpa using lastC_at s.ws s.nb i hi
set_option maxRecDepth 100000 in
set_option maxHeartbeats 400000 in
theorem read_ok {F : List Nat} {p : Nat} {s : St} {w : World} (hD : IsD w F p s) (i : Nat) (hd : s.down = false) (hi : i < s.nb) : Calls Try.prog 49 #[.pointer (some ⟨p, 0, none⟩), .int .i64 (i : Int)] w fun e w' => e = .returned (.tuple #[.slice (some ⟨w.heap.size, 0, none⟩) 256 256, .int .i64 0]) ∧ Row w' w.heap.size (blk s.ws i) ∧ Kept [] w w' := by
  have h1 := down_any hD
  rw [hd] at h1
  have h2 := has_yes hD i hi
  have hnb := hD.ok.nb
  have hle := lastN_le s.ws i
  have hmk := make_bytes
  have hR0 := new_zs w
  have hK0 : Kept [] w (w.alloc (.cells (C8 (zs 256)).toArray 5)) := (Kept.refl [] w).alloc _
  have hD0 := hD.kept hK0 (by simp)
  obtain ⟨g, c1, c2⟩ := hD0.lastCell i hi
  have hin : (i : Int) < (s.nb : Int) := by omega
  by_cases h0 : lastN s.ws i = 0
  · have hb : blk s.ws i = zs 256 := by unfold blk; rw [if_pos h0]
    rw [hb]
    rw [h0] at c2
    generalize (Obj.cells (C8 (zs 256)).toArray 5) = O at hmk hR0 hK0 c1 c2
    generalize zs 256 = Z at hR0
    clear hD hd hle h0 hb hD0
    go_enter Try.func49, Try.ntmps49
    go_wp2_with (first | (go_at_call 27; refine h1.mono ?_; rintro e w' ⟨rfl, rfl⟩) | (go_at_call 58; refine h2.mono ?_; rintro e w' ⟨rfl, rfl⟩))
    go_ret2
    exact ⟨rfl, hR0, hK0⟩
  · obtain ⟨k, hk⟩ : ∃ k, lastN s.ws i = k + 1 := ⟨lastN s.ws i - 1, by omega⟩
    have hkl : k < s.ws.length := by omega
    obtain ⟨x, hx⟩ : ∃ x, s.ws[k]? = some x := ⟨s.ws[k], by simp⟩
    have hb : blk s.ws i = x.2 := by
      unfold blk
      rw [if_neg h0, hk, Nat.add_sub_cancel, List.getD_eq_getElem?_getD, hx]
      rfl
    have hxl : x.2.length = 256 := (hD.ok.ws x (List.mem_of_getElem? hx)).2
    obtain ⟨gd, cap, c0, _, hrd, hcap, hm, _⟩ := hD0.row k x hx
    have hm' : cap ≤ 9223372036854775807 := hm
    rw [hb]
    rw [hk] at c2
    obtain ⟨w2, hrun, hR2, hk2⟩ := copy_all _ w.heap.size (zs 256) x.2 _ _ hR0 (zs_length 256) hrd hxl
    have hK2 : Kept [] w w2 := hK0.trans hk2 (fun y hy => .inr (by simp at hy; omega))
    have ek : ((k + 1 : Nat) : Int) = (k : Int) + 1 := by omega
    rw [ek] at c2
    generalize (Obj.cells (C8 (zs 256)).toArray 5) = O at hmk hK0 c0 c1 c2 hrun
    generalize x.2 = L at hR2
    generalize s.ws.length = n at hkl c0 hcap
    clear hD hd hle h0 hb hD0 hR0 hrd hk hx hxl hm ek hk2
    have hk0 : (0 : Int) < (k : Int) + 1 := by omega
    have hkn : (k : Int) < (n : Int) := by omega
    go_enter Try.func49, Try.ntmps49
    go_wp2_with (first | (go_at_call 27; refine h1.mono ?_; rintro e w' ⟨rfl, rfl⟩) | (go_at_call 58; refine h2.mono ?_; rintro e w' ⟨rfl, rfl⟩))
    go_ret2
    exact ⟨rfl, hR2, hK2⟩
/-- Read, as the document has it. -/
theorem read_any {F : List Nat} {p : Nat} {s : St} {w : World} (hD : IsD w F p s) (i : Int) :
    Calls Try.prog 49 #[.pointer (some ⟨p, 0, none⟩), .int .i64 i] w fun e w' => ∃ v, e = .returned (.tuple #[v, .int .i64 (rdE s i)]) ∧ Reads w' v (rdL s i) ∧ Kept [] w w' := by
  unfold rdL rdE
  by_cases hd : s.down = true
  · rw [if_pos hd, if_neg (by omega)]
    exact (read_down hD i hd).mono fun e w' ⟨he, hw⟩ => ⟨_, he, Reads.nil _, hw ▸ Kept.refl [] w⟩
  rw [if_neg hd]
  have hd' : s.down = false := by simpa using hd
  by_cases h : i < 0 ∨ (s.nb : Int) ≤ i
  · rw [if_pos h, if_neg (by omega)]
    exact (read_arg hD i hd' h).mono fun e w' ⟨he, hw⟩ => ⟨_, he, Reads.nil _, hw ▸ Kept.refl [] w⟩
  rw [if_neg h, if_pos rfl]
  obtain ⟨k, rfl⟩ := Int.eq_ofNat_of_zero_le (show 0 ≤ i by omega)
  exact (read_ok hD k hd' (by omega)).mono fun e w' ⟨he, h1, h2⟩ => ⟨_, he, h1.reads_all (blk_len s.nb s.ws hD.ok.ws _), h2⟩
end Go.Proofs.Ytilelklcfgemoaa
