import Derived.Lib.SliceRun
import Derived.Test.YtibapmjgpnldgaaGreatDoorQ02
import Derived.Test.YtibapmjgpnldgaaGreatDoorQ03
import Derived.Test.YtibapmjgpnldgaaGreatDoorQ05
import Derived.Test.YtibapmjgpnldgaaGreatDoorQ06
/-
  Writer.Bytes and bytes.Clone.
-/
namespace Go.Proofs.YtibapmjgpnldgaaGreatDoor
set_option maxRecDepth 100000
open Go.RowKit
theorem inf5 : (Tryz.prog.info? 5).map (fun i => (i.zero, i.size, i.bytes)) = some (some (.int .u8 0), 1, 1) := by kernel_rfl
/-- The slice v lies in memory that is new since w. -/
def Fresh (w : World) (v : Value) : Prop := ∀ g, v.ownBlock = some g → w.heap.size ≤ g
set_option maxHeartbeats 400000 in
theorem clone_nil (c : Nat) (w : World) : Calls Tryz.prog 37 #[.slice none 0 c] w fun e w' => e = .returned (.slice none 0 0) ∧ w = w' := by
  have hq := fun w : World => Lib.run_eql_slice_nil (P := Tryz.prog) w 35 5 none 0 c 0 0 Tryz.underlying35
  go_enter Tryz.func37, Tryz.ntmps37
  go_wp2
  go_ret
  exact ⟨rfl, rfl⟩
set_option maxHeartbeats 400000 in
theorem clone_some (a : Addr) (c : Nat) (l : List UInt8) (w : World) (hl : l.length ≤ 140737488355328) (hc : ∀ j u, l[j]? = some u → w.cell? (a.add j) = some (B8 u)) :
    Calls Tryz.prog 37 #[.slice (some a) l.length c] w fun e w' => ∃ v', e = .returned v' ∧ Owns 5 w' v' l ∧ Kept [] w w' ∧ Fresh w v' := by
  obtain ⟨i0, hi, hz0, hz1, hz2⟩ := info_parts inf5
  have hq := fun w : World => Lib.run_eql_slice_nil (P := Tryz.prog) w 35 5 (some a) l.length c 0 0 Tryz.underlying35
  have hcell : Hid (∀ j u, (C8 l)[j]? = some u → (w.alloc (.cells #[] 5)).cell? (a.add j) = some u) := by
    intro j u hu
    simp only [C8, List.getElem?_map, Option.map_eq_some_iff] at hu
    obtain ⟨b, hb, rfl⟩ := hu
    have h1 := hc j b hb
    rw [World.cell?_of_block (w := w) (Below.heap_alloc _ _ _ (World.block_lt_of_cell? w _ h1))]
    exact h1
  have hmade := World.ownsRow_made (base := 0) (e := 5) (size := 1) w #[] 0 (Nat.zero_le _) (by simp) (by simp)
  clear hc
  go_enter Tryz.func37, Tryz.ntmps37
  go_wp2_with (at_builtin; refine wpList_append_own_at _ rfl _ _ _ rfl 0 5 i0 _ 1 1 Tryz.underlying35 hi hz0 hz1 hz2 rfl (by omega) _ 0 [] rfl hmade a l.length c (C8 l) rfl (by rw [C8_length, Nat.mul_one]) hcell.out (C8_one l) (by unfold maxLen; omega) (by omega) (by omega) ?_; intro v1 w1 hown hgrow hnil hat)
  go_ret
  refine ⟨v1, rfl, ?_, ((Kept.refl [] w).alloc _).grown hgrow ?_, ?_⟩
  · rw [Nat.zero_add] at hown; exact hown
  · intro k hk
    have hk' : some w.heap.size = some k := hk
    injection hk' with hk'
    exact .inr (by omega)
  · intro g hg
    rcases hat with h | h
    · have h' : some g = some w.heap.size := hg.symm.trans h
      injection h' with h'
      omega
    · rw [hg] at h; simp at h; omega
/-- bytes.Clone: the same bytes, in new memory. -/
theorem clone_any (v : Value) (l : List UInt8) (w : World) (h : Reads w v l) (hl : l.length ≤ 140737488355328) :
    Calls Tryz.prog 37 #[v] w fun e w' => ∃ v', e = .returned v' ∧ Owns 5 w' v' l ∧ Kept [] w w' ∧ Fresh w v' := by
  obtain ⟨a, cap, rfl, h2, h3, h4, h5⟩ := h
  match a with
  | none =>
    have hc := h4 rfl
    subst hc
    have h0 : l = [] := List.eq_nil_of_length_eq_zero (by omega)
    subst h0
    exact (clone_nil 0 w).mono fun e w' ⟨he, hw⟩ => ⟨_, he, hw ▸ Owns.nil 5 w, hw ▸ Kept.refl [] w, fun g hg => by simp [Value.ownBlock] at hg⟩
  | some a =>
    refine clone_some a cap l w hl fun j u hu => ?_
    have hne : l ≠ [] := fun h => by subst h; simp at hu
    obtain ⟨b, o, hab, hc⟩ := h5 hne
    simp at hab
    subst hab
    have hadd : (⟨b, o, Option.none⟩ : Addr).add j = ⟨b, o + j, Option.none⟩ := by unfold Addr.add; split <;> simp_all
    rw [hadd]
    exact hc j u hu
set_option maxHeartbeats 400000 in
theorem wbytes_nil (w : World) : Calls Tryz.prog 20 #[.pointer none] w fun e w' => e = .returned (.slice none 0 0) ∧ w = w' := by
  go_enter Tryz.func20, Tryz.ntmps20
  go_wp2
  go_ret
  exact ⟨rfl, rfl⟩
set_option maxHeartbeats 400000 in
theorem wbytes_any (p : Nat) (v : Value) (l : List UInt8) (w : World) (hW : IsW 88 5 w p v l) (hl : l.length ≤ 140737488355328) :
    Calls Tryz.prog 20 #[.pointer (some ⟨p, 0, none⟩)] w fun e w' => ∃ v', e = .returned v' ∧ Owns 5 w' v' l ∧ Kept [] w w' ∧ Fresh w v' := by
  have hcell := cell_of_one hW.box
  have hr := hW.own.reads
  go_enter Tryz.func20, Tryz.ntmps20
  go_wp2_with (go_at_call 37; refine (clone_any v l _ hr hl).mono ?_; rintro e w1 ⟨v1, rfl, hown, hk, hf⟩)
  go_ret
  exact ⟨v1, rfl, hown, hk, hf⟩
end Go.Proofs.YtibapmjgpnldgaaGreatDoor
/-
  Writer.Int and Writer.Text: what they lay.
-/
namespace Go.Proofs.YtibapmjgpnldgaaGreatDoor
set_option maxRecDepth 100000
open Go.RowKit
set_option maxHeartbeats 400000 in
theorem wint_nil (z : Int) (w : World) (h1 : -9223372036854775808 ≤ z) (h2 : z ≤ 9223372036854775807) : Calls Tryz.prog 19 #[.pointer none, .int .i64 z] w fun e w' => e = .returned (.tuple #[]) ∧ w = w' := by
  go_enter Tryz.func19, Tryz.ntmps19
  go_wp2_with (first | (go_at_call 36; refine (fold_any z _ h1 h2).mono ?_; rintro e w' ⟨rfl, rfl⟩) | (go_at_call 17; refine (wnum_nil _ _).mono ?_; rintro e w' ⟨rfl, rfl⟩))
  go_end0
  exact ⟨rfl, rfl⟩
set_option maxHeartbeats 400000 in
theorem wint_any (p : Nat) (v : Value) (l : List UInt8) (z : Int) (w : World) (hW : IsW 88 5 w p v l) (h1 : -9223372036854775808 ≤ z) (h2 : z ≤ 9223372036854775807) (hb : l.length + 9 ≤ 140737488355328) :
    Calls Tryz.prog 19 #[.pointer (some ⟨p, 0, none⟩), .int .i64 z] w fun e w' => e = .returned (.tuple #[]) ∧ Laid 88 5 w p v (l ++ enc (fold z)) w' := by
  have hf := fold_lt z h1 h2
  go_enter Tryz.func19, Tryz.ntmps19
  go_wp2_with (first | (go_at_call 36; refine (fold_any z _ h1 h2).mono ?_; rintro e w' ⟨rfl, rfl⟩) | (go_at_call 17; refine (wnum_any p v l (fold z) _ hW hf hb).mono ?_; rintro e w' ⟨rfl, hL⟩))
  go_end0
  exact ⟨rfl, hL⟩
set_option maxHeartbeats 400000 in
theorem wtext_nil (s : ByteArray) (w : World) : Calls Tryz.prog 18 #[.pointer none, .string s] w fun e w' => e = .returned (.tuple #[]) ∧ w = w' := by
  go_enter Tryz.func18, Tryz.ntmps18
  go_wp2
  refine bodyPost_ret (results_none rfl _ _ _) rfl ?_
  exact ⟨rfl, rfl⟩
theorem laid_str {t e : TypeId} {w w1 w2 : World} {p : Nat} {v v2 : Value} {l l2 : List UInt8} (hW : IsW t e w p v l) (hown : Owns e w1 v2 l2) (hg : w.grownBy w1 v.ownBlock) (hat : New w v v2) (h2 : w2 = w1.setCell ⟨p, 0, none⟩ v2) : Laid t e w p v l2 w2 := by
  subst h2
  exact laid_step hW (Kept.refl [] w) hown hg hat
set_option maxHeartbeats 1000000 in
theorem wtext_any (p : Nat) (v : Value) (l : List UInt8) (s : ByteArray) (w : World) (hW : IsW 88 5 w p v l) (hb : l.length + 9 + s.size ≤ 140737488355328) :
    Calls Tryz.prog 18 #[.pointer (some ⟨p, 0, none⟩), .string s] w fun e w' => e = .returned (.tuple #[]) ∧ Laid 88 5 w p v (l ++ enc s.size ++ s.data.toList) w' := by
  obtain ⟨i0, hi, hz0, hz1, hz2⟩ := info_parts info5
  have hlt := hW.lt
  have hel := enc_length s.size
  obtain ⟨hel1, hel2⟩ := hel
  go_enter Tryz.func18, Tryz.ntmps18
  go_wp2_with (first | (go_at_call 17; refine (wnum_any p v l s.size _ hW (by omega) (by omega)).mono ?_; rintro e w1 ⟨rfl, v1, hW1, hk1, hn1⟩; have hcell := cell_of_one hW1.box; have hfree := free_of_one hW1.box) | (at_builtin; refine wpList_append_str_lies _ rfl _ _ _ _ rfl 5 i0 Tryz.underlying35 Tryz.underlying9 hi hz0 hz1 hz2 v1 (l ++ enc s.size) rfl hW1.own s rfl (by rw [List.length_append]; omega) ?_; intro a2 n2 c2 w2 hown hgrow hat; obtain ⟨hc2, hf2⟩ := ready_store hW1 (Kept.refl [] w1) hgrow))
  go_end0
  exact ⟨rfl, Laid.trans hk1 hn1 (laid_step hW1 (Kept.refl [] w1) hown hgrow hat)⟩
end Go.Proofs.YtibapmjgpnldgaaGreatDoor
/-
  awake: the program answers.
-/
namespace Go.Proofs.YtibapmjgpnldgaaGreatDoor
set_option maxRecDepth 100000
open Go.RowKit
/-- A new Writer. -/
theorem new_isW (w : World) : IsW 88 5 (w.alloc (.cells #[.slice none 0 0] 88)) w.heap.size (.slice none 0 0) [] :=
  ⟨heap_alloc_new w _, Owns.nil 5 _, by simp [Value.ownBlock]⟩
/-- A row of bytes that was just laid reads as it was laid. -/
theorem reads_new (w : World) (l : List UInt8) (hl : l.length ≤ maxLen) : Reads (w.alloc (.cells (C8 l).toArray 5)) (.slice (some ⟨w.heap.size, 0, none⟩) l.length l.length) l := by
  refine ⟨_, l.length, rfl, Nat.le_refl _, hl, by simp, fun _ => ⟨w.heap.size, 0, rfl, fun j u hu => ?_⟩⟩
  have h := World.news_of_block (w := w.alloc (.cells (C8 l).toArray 5)) (heap_alloc_new w _) j (B8 u) (by simp [C8, hu])
  have hadd : (⟨w.heap.size, 0, Option.none⟩ : Addr).add j = ⟨w.heap.size, 0 + j, Option.none⟩ := by unfold Addr.add; split <;> simp_all
  rw [hadd] at h
  exact h
theorem enc300 : enc 300 = [249, 1, 44] := by decide
theorem rnum300 : rnum [249, 1, 44] false = (300, [], false) := by decide
end Go.Proofs.YtibapmjgpnldgaaGreatDoor
/-
  The Reader's calls: Number, Int, Text, Bad, Left, End, NewReader.
-/
namespace Go.Proofs.YtibapmjgpnldgaaGreatDoor
set_option maxRecDepth 100000
open Go.RowKit
theorem size5 : ∀ w, (Go.sizeOf 5).run Tryz.prog w = .ok 1 w := fun _ => by kernel_rfl
set_option maxHeartbeats 400000 in
theorem spoil_any (p : Nat) (v : Value) (l : List UInt8) (bad : Bool) (w : World) (hR : IsR 116 w p v l bad) : Calls Tryz.prog 66 #[.pointer (some ⟨p, 0, none⟩)] w fun e w' => e = .returned (.tuple #[]) ∧ Rest 116 w p v [] true w' := by
  obtain ⟨hc0, hc1⟩ := cell_of_two hR.box
  obtain ⟨hf0, hf1⟩ := free_of_two hR.box
  go_enter Tryz.func66, Tryz.ntmps66
  go_wp2
  go_end0
  exact ⟨rfl, rest_bad hR⟩
set_option maxHeartbeats 400000 in
theorem rnum_nil (w : World) : Calls Tryz.prog 45 #[.pointer none] w fun e w' => e = .returned (.int .u64 0) ∧ w = w' := by
  go_enter Tryz.func45, Tryz.ntmps45
  go_wp2
  go_ret
  exact ⟨rfl, rfl⟩
set_option maxHeartbeats 400000 in
theorem rnum_any (p : Nat) (v : Value) (l : List UInt8) (bad : Bool) (w : World) (hR : IsR 116 w p v l bad) :
    Calls Tryz.prog 45 #[.pointer (some ⟨p, 0, none⟩)] w fun e w' => e = .returned (.int .u64 ((rnum l bad).1 : Int)) ∧ Rest 116 w p v (rnum l bad).2.1 (rnum l bad).2.2 w' := by
  obtain ⟨hc0, hc1⟩ := cell_of_two hR.box
  obtain ⟨hf0, hf1⟩ := free_of_two hR.box
  have hreads := hR.reads
  have hle := dec_le l
  by_cases hk : (dec l).2 = 0
  · have HR : Hid (rnum l bad = (0, [], true)) := by show _ = _; unfold rnum; rw [if_pos hk]
    have hk0 : (((dec l).2 : Int) == 0) = true := by simp [hk]
    have hfirst := first_any v l w hreads
    generalize (dec l).1 = N at hfirst
    generalize (dec l).2 = K at hfirst hk0
    clear hk hle
    go_enter Tryz.func45, Tryz.ntmps45
    go_wp2_with (first | (go_at_call 65; refine hfirst.mono ?_; rintro e w' ⟨rfl, rfl⟩) | (go_at_call 66; refine (spoil_any p v l bad _ hR).mono ?_; rintro e w' ⟨rfl, hL⟩))
    go_ret
    rw [HR.out]
    exact ⟨rfl, hL⟩
  · have HR : Hid (rnum l bad = ((dec l).1, l.drop (dec l).2, bad)) := by show _ = _; unfold rnum; rw [if_neg hk]
    have hk0 : (((dec l).2 : Int) == 0) = false := by simp [hk]
    have hfirst := first_any v l w hreads
    obtain ⟨a, cap, rfl, -, -, -, -⟩ := hreads
    obtain ⟨a1, c1, hsl, hr1, hin⟩ := slice_from (P := Tryz.prog) 35 5 Tryz.underlying35 size5 .i64 a cap (dec l).2 l w hR.reads hle
    have hb : bad = true → l.drop (dec l).2 = [] := fun h => by rw [hR.none h]; simp
    have hR1 := rest_on hR hr1 hin hb
    clear hR hr1 hin hb hle hk
    generalize (dec l).1 = N at hfirst HR
    generalize (dec l).2 = K at hfirst hk0 HR hsl hR1
    go_enter Tryz.func45, Tryz.ntmps45
    go_wp2_with (first | (go_at_call 65; refine hfirst.mono ?_; rintro e w' ⟨rfl, rfl⟩))
    go_ret
    rw [HR.out]
    exact ⟨rfl, hR1⟩
set_option maxHeartbeats 400000 in
theorem rint_nil (w : World) : Calls Tryz.prog 47 #[.pointer none] w fun e w' => e = .returned (.int .i64 0) ∧ w = w' := by
  go_enter Tryz.func47, Tryz.ntmps47
  go_wp2_with (first | (go_at_call 45; refine (rnum_nil _).mono ?_; rintro e w' ⟨rfl, rfl⟩) | (go_at_call 67; refine (unfold_any 0 _ (by omega)).mono ?_; rintro e w' ⟨rfl, rfl⟩))
  go_ret
  exact ⟨rfl, rfl⟩
set_option maxHeartbeats 400000 in
theorem rint_any (p : Nat) (v : Value) (l : List UInt8) (bad : Bool) (w : World) (hR : IsR 116 w p v l bad) :
    Calls Tryz.prog 47 #[.pointer (some ⟨p, 0, none⟩)] w fun e w' => e = .returned (.int .i64 (unfold (rnum l bad).1)) ∧ Rest 116 w p v (rnum l bad).2.1 (rnum l bad).2.2 w' := by
  have hlt := rnum_lt l bad
  go_enter Tryz.func47, Tryz.ntmps47
  go_wp2_with (first | (go_at_call 45; refine (rnum_any p v l bad _ hR).mono ?_; rintro e w' ⟨rfl, hL⟩) | (go_at_call 67; refine (unfold_any (rnum l bad).1 _ hlt).mono ?_; rintro e w' ⟨rfl, rfl⟩))
  go_ret
  exact ⟨rfl, hL⟩
set_option maxHeartbeats 400000 in
theorem end_nil (w : World) : Calls Tryz.prog 48 #[.pointer none] w fun e w' => e = .returned (.bool false) ∧ w = w' := by
  go_enter Tryz.func48, Tryz.ntmps48
  go_wp2
  go_ret
  exact ⟨rfl, rfl⟩
set_option maxHeartbeats 400000 in
theorem end_any (p : Nat) (v : Value) (l : List UInt8) (bad : Bool) (w : World) (hR : IsR 116 w p v l bad) : Calls Tryz.prog 48 #[.pointer (some ⟨p, 0, none⟩)] w fun e w' => e = .returned (.bool (!bad && l.isEmpty)) ∧ w = w' := by
  obtain ⟨hc0, hc1⟩ := cell_of_two hR.box
  obtain ⟨a, cap, rfl, -, -, -, -⟩ := hR.reads
  cases bad with
  | true =>
    go_enter Tryz.func48, Tryz.ntmps48
    go_wp2
    go_ret
    exact ⟨rfl, rfl⟩
  | false =>
    have he : l.isEmpty = ((l.length : Int) == 0) := by cases l <;> simp; omega
    rw [he]
    clear he
    generalize l.length = n at *
    go_enter Tryz.func48, Tryz.ntmps48
    go_wp2
    go_ret
    exact ⟨rfl, rfl⟩
end Go.Proofs.YtibapmjgpnldgaaGreatDoor
/-
  Reader.Text and NewReader.
-/
namespace Go.Proofs.YtibapmjgpnldgaaGreatDoor
set_option maxRecDepth 100000
open Go.RowKit
set_option maxHeartbeats 400000 in
theorem rtext_nil (w : World) : Calls Tryz.prog 46 #[.pointer none] w fun e w' => e = .returned (.string ⟨#[]⟩) ∧ w = w' := by
  go_enter Tryz.func46, Tryz.ntmps46
  go_wp2
  go_ret
  exact ⟨rfl, rfl⟩
/-- The facts that the walk of Reader.Text wants of a Reader. -/
theorem isR_form {t : TypeId} {w : World} {p : Nat} {v : Value} {l : List UInt8} {bad : Bool} (hR : IsR t w p v l bad) : ∃ a cap, v = .slice a l.length cap ∧ l.length ≤ cap ∧ cap ≤ 9223372036854775807 := by
  obtain ⟨a, cap, rfl, h2, h3, -, -⟩ := hR.reads
  exact ⟨a, cap, rfl, h2, h3⟩
set_option maxHeartbeats 1000000 in
theorem rtext_any (p : Nat) (v : Value) (l : List UInt8) (bad : Bool) (w : World) (hR : IsR 116 w p v l bad) :
    Calls Tryz.prog 46 #[.pointer (some ⟨p, 0, none⟩)] w fun e w' => e = .returned (.string ⟨(rtext l bad).1.toArray⟩) ∧ Rest 116 w p v (rtext l bad).2.1 (rtext l bad).2.2 w' := by
  have hnum := rnum_any p v l bad w hR
  have hlt := rnum_lt l bad
  have HT : Hid (rtext l bad = if (rnum l bad).2.1.length < (rnum l bad).1 then ([], [], true) else ((rnum l bad).2.1.take (rnum l bad).1, (rnum l bad).2.1.drop (rnum l bad).1, (rnum l bad).2.2)) := rfl
  generalize rtext l bad = T at HT ⊢
  obtain ⟨t1, t2, t3⟩ := T
  generalize (rnum l bad).1 = N at hnum hlt HT
  generalize (rnum l bad).2.1 = l1 at hnum HT
  generalize (rnum l bad).2.2 = b1 at hnum HT
  by_cases hs : l1.length < N
  · have HT1 : Hid ((t1, t2, t3) = (([] : List UInt8), ([] : List UInt8), true)) := by have h := HT.out; rw [if_pos hs] at h; exact h
    clear HT
    go_enter Tryz.func46, Tryz.ntmps46
    go_wp2_with (first | (go_at_call 45; refine hnum.mono ?_; rintro e w1 ⟨rfl, v1, hR1, hk1, hi1⟩; obtain ⟨hc0, hc1⟩ := cell_of_two hR1.box; obtain ⟨a1, cap1, hv1, hl1, hl2⟩ := isR_form hR1; rw [hv1] at hc0) | (go_at_call 66; refine (spoil_any p v1 l1 b1 _ hR1).mono ?_; rintro e w2 ⟨rfl, hL⟩))
    go_ret
    have h := HT1.out
    simp only [Prod.mk.injEq] at h
    obtain ⟨rfl, rfl, rfl⟩ := h
    exact ⟨rfl, Rest.trans hk1 hi1 hL⟩
  · have HT1 : Hid ((t1, t2, t3) = (l1.take N, l1.drop N, b1)) := by have h := HT.out; rw [if_neg hs] at h; exact h
    clear HT
    go_enter Tryz.func46, Tryz.ntmps46
    go_wp2_with fail
    refine hnum.mono ?_
    rintro e w1 ⟨rfl, v1, hR1, hk1, hi1⟩
    obtain ⟨hc0, hc1⟩ := cell_of_two hR1.box
    obtain ⟨hf0, hf1⟩ := free_of_two hR1.box
    obtain ⟨a1, cap1, rfl, hl1, hl2⟩ := isR_form hR1
    obtain ⟨a2, c2, hto, hr2⟩ := slice_to (P := Tryz.prog) 35 5 Tryz.underlying35 size5 .u64 a1 cap1 N l1 w1 hR1.reads (by omega)
    obtain ⟨a3, c3, hfrom, hr3, hin⟩ := slice_from (P := Tryz.prog) 35 5 Tryz.underlying35 size5 .u64 a1 cap1 N l1 w1 hR1.reads (by omega)
    have hstr := string_of (P := Tryz.prog) 35 5 Tryz.underlying35 9 Tryz.underlying5 Tryz.underlying9 _ _ w1 hr2
    have hL := rest_on hR1 hr3 hin (fun h => by rw [hR1.none h]; simp)
    clear hr2 hr3 hin hnum
    go_wp2
    go_ret
    have h := HT1.out
    simp only [Prod.mk.injEq] at h
    obtain ⟨rfl, rfl, rfl⟩ := h
    exact ⟨rfl, Rest.trans hk1 hi1 hL⟩
set_option maxHeartbeats 400000 in
theorem newr_any (v : Value) (l : List UInt8) (w : World) (h : Reads w v l) (hl : l.length ≤ 140737488355328) :
    Calls Tryz.prog 44 #[v] w fun e w' => ∃ p v', e = .returned (.pointer (some ⟨p, 0, none⟩)) ∧ IsR 116 w' p v' l false ∧ Kept [] w w' ∧ Fresh w v' ∧ w.heap.size ≤ p := by
  go_enter Tryz.func44, Tryz.ntmps44
  go_wp2_with (go_at_call 37; refine (clone_any v l _ h hl).mono ?_; rintro e w1 ⟨v1, rfl, hown, hk, hf⟩; obtain ⟨a1, c1, hv1⟩ := hown.form; rw [hv1])
  go_ret
  subst hv1
  have hne : (Value.slice a1 l.length c1).ownBlock ≠ some w1.heap.size := fun h => by have := hown.lt h; omega
  exact ⟨w1.heap.size, _, rfl, ⟨heap_alloc_new w1 _, hown.reads.kept ((Kept.refl [] w1).alloc _) (by simp), hne, by simp⟩, hk.alloc _, hf, hk.size⟩
end Go.Proofs.YtibapmjgpnldgaaGreatDoor
