import Derived.Lib.SliceRun
import Derived.Test.YtngnenbidpojeaaGreatDoorProg
import Derived.Laws.AppendOwnNone
import Derived.Deep.Slices
import Derived.IntWalk
import Derived.Test.YtngnenbidpojeaaGreatDoorT01
/-
 Slices of bytes that are cut; a Reader behind a call. Nothing here speaks of the program.
-/
namespace Go.Proofs.YtngnenbidpojeaaGreatDoor
set_option maxRecDepth 100000
open Go.RowKit
def Within (v v1 : Value) : Prop := ∀ g, v1.ownBlock = some g → v.ownBlock = some g
theorem Within.refl (v : Value) : Within v v := fun _ h => h
theorem Within.trans {v v1 v2 : Value} (h : Within v v1) (k : Within v1 v2) : Within v v2 := fun g hg => h g (k g hg)
theorem slice_from {P : Program} (t e : TypeId) (ht : P.underlying t = some (.slice e)) (hz : ∀ w, (Go.sizeOf e).run P w = .ok 1 w) (kl : IntKind) (a : Option Addr) (cap k : Nat) (l : List UInt8) (w : World) (h : Reads w (.slice a l.length cap) l) (hk : k ≤ l.length) :
  ∃ a' c', (∀ W, (Instr.slice t (.slice a l.length cap) (some (.int kl (k : Int))) none none).run P W = .ok (.slice a' (l.length - k) c') W) ∧ Reads w (.slice a' (l.length - k) c') (l.drop k) ∧ Within (.slice a l.length cap) (.slice a' (l.length - k) c') := by
 have ht' : P.underlying t = some (.slice (P.elem t)) := by simp [Program.elem, ht]
 have he : P.elem t = e := by simp [Program.elem, ht]
 obtain ⟨a0, cap0, hv, h2, h3, h4, h5⟩ := h
 injection hv with e1 e2 e3
 subst e1 e3
 refine ⟨if cap = k then a else a.map (·.add (k * 1)), cap - k, fun W => ?_, ?_, ?_⟩
 ·rw [run_slice_l W t _ _ _ ht' kl _ (by omega) (by omega), he, hz]
  simp [Result.andThen, sliced]
 ·refine ⟨_, cap - k, by rw [List.length_drop], by rw [List.length_drop]; omega, by omega, ?_, ?_⟩
  ·intro hn
   by_cases hc : cap = k
   ·omega
   ·rw [if_neg hc] at hn
    have : a = none := by cases a <;> simp_all
    have := h4 this
    omega
  ·intro hne
   have hlt : k < l.length := by
    rcases Nat.lt_or_ge k l.length with h | h
    ·exact h
    ·exact absurd (List.drop_eq_nil_of_le h) hne
   obtain ⟨b, o, rfl, hc⟩ := h5 (by intro h; subst h; simp at hlt)
   refine ⟨b, o + k, ?_, fun j u hu => ?_⟩
   ·rw [if_neg (by omega)]
    simp only [Option.map_some, Nat.mul_one]
    congr 1
    unfold Addr.add; split <;> simp_all
   ·rw [List.getElem?_drop] at hu
    have := hc (k + j) u hu
    rw [Nat.add_assoc]
    exact this
 ·intro g hg
  by_cases hc : cap = k
  ·rw [if_pos hc] at hg
   cases a <;> exact hg
  ·rw [if_neg hc] at hg
   cases a with
   | none => simp [Value.ownBlock] at hg
   | some x =>
    simp only [Option.map_some, Value.ownBlock] at hg ⊢
    rw [← hg]
    congr 1
    unfold Addr.add; split <;> rfl
theorem slice_to {P : Program} (t e : TypeId) (ht : P.underlying t = some (.slice e)) (hz : ∀ w, (Go.sizeOf e).run P w = .ok 1 w) (kh : IntKind) (a : Option Addr) (cap k : Nat) (l : List UInt8) (w : World) (h : Reads w (.slice a l.length cap) l) (hk : k ≤ l.length) :
  ∃ a' c', (∀ W, (Instr.slice t (.slice a l.length cap) none (some (.int kh (k : Int))) none).run P W = .ok (.slice a' k c') W) ∧ Reads w (.slice a' k c') (l.take k) := by
 have ht' : P.underlying t = some (.slice (P.elem t)) := by simp [Program.elem, ht]
 have he : P.elem t = e := by simp [Program.elem, ht]
 obtain ⟨a0, cap0, hv, h2, h3, h4, h5⟩ := h
 injection hv with e1 e2 e3
 subst e1 e3
 have hl : (l.take k).length = k := by rw [List.length_take]; omega
 refine ⟨if cap = 0 then a else a.map (·.add 0), cap, fun W => ?_, ?_⟩
 ·rw [run_slice_h W t _ _ _ ht' kh _ (by omega) (by omega), he, hz]
  simp [Result.andThen, sliced]
 ·refine ⟨_, cap, by rw [hl], by omega, h3, ?_, ?_⟩
  ·intro hn
   by_cases hc : cap = 0
   ·exact hc
   ·rw [if_neg hc] at hn
    have : a = none := by cases a <;> simp_all
    exact h4 this
  ·intro hne
   have hne' : l ≠ [] := by intro h; subst h; simp at hne
   obtain ⟨b, o, rfl, hc⟩ := h5 hne'
   have hpos : 0 < l.length := List.length_pos_iff.2 hne'
   refine ⟨b, o, ?_, fun j u hu => ?_⟩
   ·rw [if_neg (by omega)]
    simp [Addr.add]
   ·have hj : j < k := by
     have := (List.getElem?_eq_some_iff.1 hu).1; omega
    rw [List.getElem?_take_of_lt hj] at hu
    exact hc j u hu
theorem string_of {P : Program} (t e : TypeId) (ht : P.underlying t = some (.slice e)) (u : TypeId) (he : P.underlying e = some (.int .u8)) (hu : P.underlying u = some .string) (v : Value) (l : List UInt8) (w : World) (h : Reads w v l) :
  (convert t u v).run P w = .ok (.string ⟨l.toArray⟩) w := by
 obtain ⟨a, cap, rfl, h2, h3, h4, h5⟩ := h
 cases a with
 | none =>
  have h0 : l = [] := List.eq_nil_of_length_eq_zero (by have := h4 rfl; omega)
  subst h0
  rw [run_convert_bytes_string w t u e _ _ _ ht he hu]
  simp [Conv.bytesToString]
  rfl
 | some a =>
  refine run_convert_bytes_back w t u e a cap l ht he hu fun j hj => ?_
  obtain ⟨b, o, hab, hc⟩ := h5 (by intro h; subst h; simp at hj)
  simp at hab
  subst hab
  have hadd : (⟨b, o, Option.none⟩ : Addr).add j = ⟨b, o + j, Option.none⟩ := by unfold Addr.add; split <;> simp_all
  rw [hadd]
  exact hc j l[j] (by simp)
def Rest (t : TypeId) (w : World) (p : Nat) (v : Value) (l : List UInt8) (bad : Bool) (w' : World) : Prop :=
 ∃ v', IsR t w' p v' l bad ∧ Kept [p] w w' ∧ Within v v'
theorem two_set0 {w : World} {b : Nat} {v u x : Value} {t : TypeId} (h : w.heap[b]? = some (.cells #[v, u] t (0, 0))) : (w.setCell ⟨b, 0, none⟩ x).heap[b]? = some (.cells #[x, u] t (0, 0)) := by
 have hlt := lt_of_block h
 have h' : w.heap[b] = .cells #[v, u] t (0, 0) := by simpa [Array.getElem?_eq_getElem hlt] using h
 show (w.heap.modify b _)[b]? = _
 rw [Array.getElem?_eq_getElem (by simpa using hlt), Array.getElem_modify_self, h']
 rfl
theorem two_set1 {w : World} {b : Nat} {v u x : Value} {t : TypeId} (h : w.heap[b]? = some (.cells #[v, u] t (0, 0))) : (w.setCell ⟨b, 1, none⟩ x).heap[b]? = some (.cells #[v, x] t (0, 0)) := by
 have hlt := lt_of_block h
 have h' : w.heap[b] = .cells #[v, u] t (0, 0) := by simpa [Array.getElem?_eq_getElem hlt] using h
 show (w.heap.modify b _)[b]? = _
 rw [Array.getElem?_eq_getElem (by simpa using hlt), Array.getElem_modify_self, h']
 rfl
theorem rest_on {t : TypeId} {w : World} {p : Nat} {v v1 : Value} {l l1 : List UInt8} {bad : Bool} (hR : IsR t w p v l bad) (h1 : Reads w v1 l1) (hi : Within v v1) (hb : bad = true → l1 = []) : Rest t w p v l1 bad (w.setCell ⟨p, 0, none⟩ v1) := by
 have hne : v1.ownBlock ≠ some p := fun h => hR.apart (hi p h)
 have k : Kept [p] w (w.setCell ⟨p, 0, none⟩ v1) := (Kept.refl [p] w).setCell (.inl (by simp)) _
 exact ⟨v1, ⟨two_set0 hR.box, h1.kept k (fun g hg => by intro hm; simp at hm; subst hm; exact hne hg), hne, hb⟩, k, hi⟩
theorem rest_bad {t : TypeId} {w : World} {p : Nat} {v : Value} {l : List UInt8} {bad : Bool} (hR : IsR t w p v l bad) : Rest t w p v [] true ((w.setCell ⟨p, 0, none⟩ (.slice none 0 0)).setCell ⟨p, 1, none⟩ (.bool true)) :=
 ⟨.slice none 0 0, ⟨two_set1 (two_set0 hR.box), Reads.nil _, by simp [Value.ownBlock], fun _ => rfl⟩, ((Kept.refl [p] w).setCell (.inl (by simp)) _).setCell (.inl (by simp)) _, fun g hg => by simp [Value.ownBlock] at hg⟩
theorem Rest.trans {t : TypeId} {w w1 w2 : World} {p : Nat} {v v1 : Value} {l2 : List UInt8} {b2 : Bool} (k : Kept [p] w w1) (hn : Within v v1) (h2 : Rest t w1 p v1 l2 b2 w2) : Rest t w p v l2 b2 w2 := by
 obtain ⟨v2, hR, k2, n2⟩ := h2
 exact ⟨v2, hR, k.trans k2 (fun x hx => .inl hx), hn.trans n2⟩
def rnum (l : List UInt8) (bad : Bool) : Nat × List UInt8 × Bool := if (dec l).2 = 0 then (0, [], true) else ((dec l).1, l.drop (dec l).2, bad)
def rtext (l : List UInt8) (bad : Bool) : List UInt8 × List UInt8 × Bool :=
 if (rnum l bad).2.1.length < (rnum l bad).1 then ([], [], true)
 else ((rnum l bad).2.1.take (rnum l bad).1, (rnum l bad).2.1.drop (rnum l bad).1, (rnum l bad).2.2)
theorem rnum_lt (l : List UInt8) (bad : Bool) : (rnum l bad).1 < 18446744073709551616 := by
 unfold rnum; split
 ·decide
 ·exact dec_bound l
theorem inf5 : (Tryz.prog.info? 5).map (fun i => (i.zero, i.size, i.bytes)) = some (some (.int .u8 0), 1, 1) := by kernel_rfl
def Fresh (w : World) (v : Value) : Prop := ∀ g, v.ownBlock = some g → w.heap.size ≤ g
set_option maxHeartbeats 400000 in
theorem clone_nil (c : Nat) (w : World) : Calls Tryz.prog 112 #[.slice none 0 c] w fun e w' => e = .returned (.slice none 0 0) ∧ w = w' := by
 have hq := fun w : World => Lib.run_eql_slice_nil (P := Tryz.prog) w 73 5 none 0 c 0 0 Tryz.underlying73
 go_enter Tryz.func112, Tryz.ntmps112
 go_wp2
 go_ret
 exact ⟨rfl, rfl⟩
set_option maxHeartbeats 400000 in
theorem clone_some (a : Addr) (c : Nat) (l : List UInt8) (w : World) (hl : l.length ≤ 140737488355328) (hc : ∀ j u, l[j]? = some u → w.cell? (a.add j) = some (B8 u)) :
  Calls Tryz.prog 112 #[.slice (some a) l.length c] w fun e w' => ∃ v', e = .returned v' ∧ Owns 5 w' v' l ∧ Kept [] w w' ∧ Fresh w v' := by
 obtain ⟨i0, hi, hz0, hz1, hz2⟩ := info_parts inf5
 have hq := fun w : World => Lib.run_eql_slice_nil (P := Tryz.prog) w 73 5 (some a) l.length c 0 0 Tryz.underlying73
 have hcell : Hid (∀ j u, (C8 l)[j]? = some u → (w.alloc (.cells #[] 5)).cell? (a.add j) = some u) := by
  intro j u hu
  simp only [C8, List.getElem?_map, Option.map_eq_some_iff] at hu
  obtain ⟨b, hb, rfl⟩ := hu
  have h1 := hc j b hb
  rw [World.cell?_of_block (w := w) (Below.heap_alloc _ _ _ (World.block_lt_of_cell? w _ h1))]
  exact h1
 have hmade := World.ownsRow_made (base := 0) (e := 5) (size := 1) w #[] 0 (Nat.zero_le _) (by simp) (by simp)
 clear hc
 go_enter Tryz.func112, Tryz.ntmps112
 go_wp2_with (at_builtin; refine wpList_append_own_at _ rfl _ _ _ rfl 0 5 i0 _ 1 1 Tryz.underlying73 hi hz0 hz1 hz2 rfl (by omega) _ 0 [] rfl hmade a l.length c (C8 l) rfl (by rw [C8_length, Nat.mul_one]) hcell.out (C8_one l) (by unfold maxLen; omega) (by omega) (by omega) ?_; intro v1 w1 hown hgrow hnil hat)
 go_ret
 refine ⟨v1, rfl, ?_, ((Kept.refl [] w).alloc _).grown hgrow ?_, ?_⟩
 ·rw [Nat.zero_add] at hown; exact hown
 ·intro k hk
  have hk' : some w.heap.size = some k := hk
  injection hk' with hk'
  exact .inr (by omega)
 ·intro g hg
  rcases hat with h | h
  ·have h' : some g = some w.heap.size := hg.symm.trans h
   injection h' with h'
   omega
  ·rw [hg] at h; simp at h; omega
theorem clone_any (v : Value) (l : List UInt8) (w : World) (h : Reads w v l) (hl : l.length ≤ 140737488355328) :
  Calls Tryz.prog 112 #[v] w fun e w' => ∃ v', e = .returned v' ∧ Owns 5 w' v' l ∧ Kept [] w w' ∧ Fresh w v' := by
 obtain ⟨a, cap, rfl, h2, h3, h4, h5⟩ := h
 match a with
 | none =>
  have hc := h4 rfl
  subst hc
  have h0 : l = [] := List.eq_nil_of_length_eq_zero (by omega)
  subst h0
  exact (clone_nil 0 w).mono fun e w' ⟨he, hw⟩ => ⟨_, he, hw ▸ Owns.nil 5 w, hw ▸ Kept.refl [] w, fun g hg => by simp [Value.ownBlock] at hg⟩
 | some a =>
  refine clone_some a cap l w hl fun j u hu => ?_
  have hne : l ≠ [] := fun h => by subst h; simp at hu
  obtain ⟨b, o, hab, hc⟩ := h5 hne
  simp at hab
  subst hab
  have hadd : (⟨b, o, Option.none⟩ : Addr).add j = ⟨b, o + j, Option.none⟩ := by unfold Addr.add; split <;> simp_all
  rw [hadd]
  exact hc j u hu
set_option maxHeartbeats 400000 in
theorem wbytes_any (p : Nat) (v : Value) (l : List UInt8) (w : World) (hW : IsW 205 5 w p v l) (hl : l.length ≤ 140737488355328) :
  Calls Tryz.prog 69 #[.pointer (some ⟨p, 0, none⟩)] w fun e w' => ∃ v', e = .returned v' ∧ Owns 5 w' v' l ∧ Kept [] w w' ∧ Fresh w v' := by
 have hcell := cell_of_one hW.box
 have hr := hW.own.reads
 go_enter Tryz.func69, Tryz.ntmps69
 go_wp2_with (go_at_call 112; refine (clone_any v l _ hr hl).mono ?_; rintro e w1 ⟨v1, rfl, hown, hk, hf⟩)
 go_ret
 exact ⟨v1, rfl, hown, hk, hf⟩
theorem size5 : ∀ w, (Go.sizeOf 5).run Tryz.prog w = .ok 1 w := fun _ => by kernel_rfl
set_option maxHeartbeats 400000 in
theorem spoil_any (p : Nat) (v : Value) (l : List UInt8) (bad : Bool) (w : World) (hR : IsR 212 w p v l bad) : Calls Tryz.prog 114 #[.pointer (some ⟨p, 0, none⟩)] w fun e w' => e = .returned (.tuple #[]) ∧ Rest 212 w p v [] true w' := by
 obtain ⟨hc0, hc1⟩ := cell_of_two hR.box
 obtain ⟨hf0, hf1⟩ := free_of_two hR.box
 go_enter Tryz.func114, Tryz.ntmps114
 go_wp2
 go_end0
 exact ⟨rfl, rest_bad hR⟩
set_option maxHeartbeats 400000 in
theorem rnum_any (p : Nat) (v : Value) (l : List UInt8) (bad : Bool) (w : World) (hR : IsR 212 w p v l bad) :
  Calls Tryz.prog 71 #[.pointer (some ⟨p, 0, none⟩)] w fun e w' => e = .returned (.int .u64 ((rnum l bad).1 : Int)) ∧ Rest 212 w p v (rnum l bad).2.1 (rnum l bad).2.2 w' := by
 obtain ⟨hc0, hc1⟩ := cell_of_two hR.box
 obtain ⟨hf0, hf1⟩ := free_of_two hR.box
 have hreads := hR.reads
 have hle := dec_le l
 by_cases hk : (dec l).2 = 0
 ·have HR : Hid (rnum l bad = (0, [], true)) := by show _ = _; unfold rnum; rw [if_pos hk]
  have hk0 : (((dec l).2 : Int) == 0) = true := by simp [hk]
  have hfirst := first_any v l w hreads
  generalize (dec l).1 = N at hfirst
  generalize (dec l).2 = K at hfirst hk0
  clear hk hle
  go_enter Tryz.func71, Tryz.ntmps71
  go_wp2_with (first | (go_at_call 113; refine hfirst.mono ?_; rintro e w' ⟨rfl, rfl⟩) | (go_at_call 114; refine (spoil_any p v l bad _ hR).mono ?_; rintro e w' ⟨rfl, hL⟩))
  go_ret
  rw [HR.out]
  exact ⟨rfl, hL⟩
 ·have HR : Hid (rnum l bad = ((dec l).1, l.drop (dec l).2, bad)) := by show _ = _; unfold rnum; rw [if_neg hk]
  have hk0 : (((dec l).2 : Int) == 0) = false := by simp [hk]
  have hfirst := first_any v l w hreads
  obtain ⟨a, cap, rfl, -, -, -, -⟩ := hreads
  obtain ⟨a1, c1, hsl, hr1, hin⟩ := slice_from (P := Tryz.prog) 73 5 Tryz.underlying73 size5 .i64 a cap (dec l).2 l w hR.reads hle
  have hb : bad = true → l.drop (dec l).2 = [] := fun h => by rw [hR.none h]; simp
  have hR1 := rest_on hR hr1 hin hb
  clear hR hr1 hin hb hle hk
  generalize (dec l).1 = N at hfirst HR
  generalize (dec l).2 = K at hfirst hk0 HR hsl hR1
  go_enter Tryz.func71, Tryz.ntmps71
  go_wp2_with (first | (go_at_call 113; refine hfirst.mono ?_; rintro e w' ⟨rfl, rfl⟩))
  go_ret
  rw [HR.out]
  exact ⟨rfl, hR1⟩
set_option maxHeartbeats 400000 in
theorem rint_any (p : Nat) (v : Value) (l : List UInt8) (bad : Bool) (w : World) (hR : IsR 212 w p v l bad) :
  Calls Tryz.prog 140 #[.pointer (some ⟨p, 0, none⟩)] w fun e w' => e = .returned (.int .i64 (unfold (rnum l bad).1)) ∧ Rest 212 w p v (rnum l bad).2.1 (rnum l bad).2.2 w' := by
 have hlt := rnum_lt l bad
 go_enter Tryz.func140, Tryz.ntmps140
 go_wp2_with (first | (go_at_call 71; refine (rnum_any p v l bad _ hR).mono ?_; rintro e w' ⟨rfl, hL⟩) | (go_at_call 154; refine (unfold_any (rnum l bad).1 _ hlt).mono ?_; rintro e w' ⟨rfl, rfl⟩))
 go_ret
 exact ⟨rfl, hL⟩
set_option maxHeartbeats 400000 in
theorem bad_any (p : Nat) (v : Value) (l : List UInt8) (bad : Bool) (w : World) (hR : IsR 212 w p v l bad) : Calls Tryz.prog 157 #[.pointer (some ⟨p, 0, none⟩)] w fun e w' => e = .returned (.bool bad) ∧ w = w' := by
 obtain ⟨hc0, hc1⟩ := cell_of_two hR.box
 go_enter Tryz.func157, Tryz.ntmps157
 go_wp2
 go_ret
 exact ⟨rfl, rfl⟩
set_option maxHeartbeats 400000 in
theorem end_any (p : Nat) (v : Value) (l : List UInt8) (bad : Bool) (w : World) (hR : IsR 212 w p v l bad) : Calls Tryz.prog 73 #[.pointer (some ⟨p, 0, none⟩)] w fun e w' => e = .returned (.bool (!bad && l.isEmpty)) ∧ w = w' := by
 obtain ⟨hc0, hc1⟩ := cell_of_two hR.box
 obtain ⟨a, cap, rfl, -, -, -, -⟩ := hR.reads
 cases bad with
 | true =>
  go_enter Tryz.func73, Tryz.ntmps73
  go_wp2
  go_ret
  exact ⟨rfl, rfl⟩
 | false =>
  have he : l.isEmpty = ((l.length : Int) == 0) := by cases l <;> simp; omega
  rw [he]
  clear he
  generalize l.length = n at *
  go_enter Tryz.func73, Tryz.ntmps73
  go_wp2
  go_ret
  exact ⟨rfl, rfl⟩
theorem isR_form {t : TypeId} {w : World} {p : Nat} {v : Value} {l : List UInt8} {bad : Bool} (hR : IsR t w p v l bad) : ∃ a cap, v = .slice a l.length cap ∧ l.length ≤ cap ∧ cap ≤ 9223372036854775807 := by
 obtain ⟨a, cap, rfl, h2, h3, -, -⟩ := hR.reads
 exact ⟨a, cap, rfl, h2, h3⟩
set_option maxHeartbeats 1000000 in
theorem rtext_any (p : Nat) (v : Value) (l : List UInt8) (bad : Bool) (w : World) (hR : IsR 212 w p v l bad) :
  Calls Tryz.prog 116 #[.pointer (some ⟨p, 0, none⟩)] w fun e w' => e = .returned (.string ⟨(rtext l bad).1.toArray⟩) ∧ Rest 212 w p v (rtext l bad).2.1 (rtext l bad).2.2 w' := by
 have hnum := rnum_any p v l bad w hR
 have hlt := rnum_lt l bad
 have HT : Hid (rtext l bad = if (rnum l bad).2.1.length < (rnum l bad).1 then ([], [], true) else ((rnum l bad).2.1.take (rnum l bad).1, (rnum l bad).2.1.drop (rnum l bad).1, (rnum l bad).2.2)) := rfl
 generalize rtext l bad = T at HT ⊢
 obtain ⟨t1, t2, t3⟩ := T
 generalize (rnum l bad).1 = N at hnum hlt HT
 generalize (rnum l bad).2.1 = l1 at hnum HT
 generalize (rnum l bad).2.2 = b1 at hnum HT
 by_cases hs : l1.length < N
 ·have HT1 : Hid ((t1, t2, t3) = (([] : List UInt8), ([] : List UInt8), true)) := by have h := HT.out; rw [if_pos hs] at h; exact h
  clear HT
  go_enter Tryz.func116, Tryz.ntmps116
  go_wp2_with (first | (go_at_call 71; refine hnum.mono ?_; rintro e w1 ⟨rfl, v1, hR1, hk1, hi1⟩; obtain ⟨hc0, hc1⟩ := cell_of_two hR1.box; obtain ⟨a1, cap1, hv1, hl1, hl2⟩ := isR_form hR1; rw [hv1] at hc0) | (go_at_call 114; refine (spoil_any p v1 l1 b1 _ hR1).mono ?_; rintro e w2 ⟨rfl, hL⟩))
  go_ret
  have h := HT1.out
  simp only [Prod.mk.injEq] at h
  obtain ⟨rfl, rfl, rfl⟩ := h
  exact ⟨rfl, Rest.trans hk1 hi1 hL⟩
 ·have HT1 : Hid ((t1, t2, t3) = (l1.take N, l1.drop N, b1)) := by have h := HT.out; rw [if_neg hs] at h; exact h
  clear HT
  go_enter Tryz.func116, Tryz.ntmps116
  go_wp2_with fail
  refine hnum.mono ?_
  rintro e w1 ⟨rfl, v1, hR1, hk1, hi1⟩
  obtain ⟨hc0, hc1⟩ := cell_of_two hR1.box
  obtain ⟨hf0, hf1⟩ := free_of_two hR1.box
  obtain ⟨a1, cap1, rfl, hl1, hl2⟩ := isR_form hR1
  obtain ⟨a2, c2, hto, hr2⟩ := slice_to (P := Tryz.prog) 73 5 Tryz.underlying73 size5 .u64 a1 cap1 N l1 w1 hR1.reads (by omega)
  obtain ⟨a3, c3, hfrom, hr3, hin⟩ := slice_from (P := Tryz.prog) 73 5 Tryz.underlying73 size5 .u64 a1 cap1 N l1 w1 hR1.reads (by omega)
  have hstr := string_of (P := Tryz.prog) 73 5 Tryz.underlying73 9 Tryz.underlying5 Tryz.underlying9 _ _ w1 hr2
  have hL := rest_on hR1 hr3 hin (fun h => by rw [hR1.none h]; simp)
  clear hr2 hr3 hin hnum
  go_wp2
  go_ret
  have h := HT1.out
  simp only [Prod.mk.injEq] at h
  obtain ⟨rfl, rfl, rfl⟩ := h
  exact ⟨rfl, Rest.trans hk1 hi1 hL⟩
set_option linter.unusedVariables false
theorem ownsRow_keep {S : List Nat} {w w' : World} {e : TypeId} {size : Nat} {v : Value} {n : Nat} {xs : List Value} (h : w.ownsRow 0 e size v n xs) (k : Kept S w w') (hn : ∀ g, v.ownBlock = some g → g ∉ S) : w'.ownsRow 0 e size v n xs := by
 refine ⟨h.1, ?_⟩
 rcases h.2 with h0 | ⟨g, cap, cur, rfl, hb, hg, r⟩
 ·exact .inl h0
 ·exact .inr ⟨g, cap, cur, rfl, hb, k.keeps hg (hn g rfl), r⟩
theorem add_at (b o j : Nat) : (⟨b, o, none⟩ : Addr).add j = ⟨b, o + j, none⟩ := by unfold Addr.add; split <;> simp_all
def Wide (k : Nat) (rs : List (List Value)) : Prop := ∀ r ∈ rs, r.length = k ∧ ∀ u ∈ r, u.oneCell' = true
theorem Wide.flat_length {k : Nat} : ∀ {rs : List (List Value)}, Wide k rs → rs.flatten.length = rs.length * k
 | [], _ => by simp
 | r :: rs, h => by
  rw [List.flatten_cons, List.length_append, Wide.flat_length (fun x hx => h x (by simp [hx])), (h r (by simp)).1, List.length_cons, Nat.add_mul]
  omega
theorem Wide.one {k : Nat} {rs : List (List Value)} (h : Wide k rs) : ∀ u ∈ rs.flatten, u.oneCell' = true := fun u hu => by
 obtain ⟨r, hr, hu⟩ := List.mem_flatten.1 hu
 exact (h r hr).2 u hu
theorem Wide.at {k : Nat} : ∀ {rs : List (List Value)} (h : Wide k rs) (j : Nat) (r : List Value), rs[j]? = some r → ∀ (i : Nat) (x : Value), r[i]? = some x → rs.flatten[j * k + i]? = some x
 | [], _, j, r, hj, _, _, _ => by simp at hj
 | s :: rs, h, 0, r, hj, i, x, hx => by
  simp at hj
  subst hj
  rw [List.flatten_cons, Nat.zero_mul, Nat.zero_add, List.getElem?_append_left (List.getElem?_eq_some_iff.1 hx).1]
  exact hx
 | s :: rs, h, j + 1, r, hj, i, x, hx => by
  have := Wide.at (rs := rs) (fun x hx => h x (by simp [hx])) j r (by simpa using hj) i x hx
  have hl := (h s (by simp)).1
  rw [List.flatten_cons, List.getElem?_append_right (by rw [hl, Nat.add_mul]; omega), hl, show (j + 1) * k + i - k = j * k + i by rw [Nat.add_mul]; omega]
  exact this
theorem Wide.inv {k : Nat} : ∀ {rs : List (List Value)} (h : Wide k rs) (m : Nat) (x : Value), rs.flatten[m]? = some x → ∃ j r i, rs[j]? = some r ∧ r[i]? = some x ∧ m = j * k + i
 | [], _, m, x, hx => by simp at hx
 | s :: rs, h, m, x, hx => by
  have hl := (h s (by simp)).1
  rw [List.flatten_cons] at hx
  by_cases hm : m < k
  ·rw [List.getElem?_append_left (by omega)] at hx
   exact ⟨0, s, m, rfl, hx, by omega⟩
  ·rw [List.getElem?_append_right (by omega), hl] at hx
   obtain ⟨j, r, i, h1, h2, h3⟩ := Wide.inv (fun x hx => h x (by simp [hx])) (m - k) x hx
   exact ⟨j + 1, r, i, by simpa using h1, h2, by rw [Nat.add_mul]; omega⟩
def ReadsR (k : Nat) (w : World) (v : Value) (rs : List (List Value)) : Prop :=
 ∃ a cap, v = .slice a rs.length cap ∧ rs.length ≤ cap ∧ cap ≤ maxLen ∧ (a = none → cap = 0) ∧ (rs ≠ [] → ∃ b o, a = some ⟨b, o, none⟩ ∧ ∀ j r, rs[j]? = some r → ∀ i x, r[i]? = some x → w.cell? ⟨b, o + j * k + i, none⟩ = some x)
theorem ReadsR.nil (k : Nat) (w : World) : ReadsR k w (.slice none 0 0) [] := ⟨none, 0, rfl, by simp, by simp, by simp, by simp⟩
theorem ReadsR.form {k : Nat} {w : World} {v : Value} {rs : List (List Value)} (h : ReadsR k w v rs) : ∃ a c, v = .slice a rs.length c ∧ rs.length ≤ c ∧ c ≤ 9223372036854775807 := by
 obtain ⟨a, c, h1, h2, h3, _⟩ := h
 exact ⟨a, c, h1, h2, h3⟩
theorem ReadsR.at {k : Nat} {w : World} {v : Value} {rs : List (List Value)} (h : ReadsR k w v rs) (j : Nat) (r : List Value) (hj : rs[j]? = some r) : ∃ b o c, v = .slice (some ⟨b, o, none⟩) rs.length c ∧ ∀ i x, r[i]? = some x → w.cell? ⟨b, o + j * k + i, none⟩ = some x := by
 obtain ⟨a, cap, rfl, h2, h3, h4, h5⟩ := h
 obtain ⟨b, o, rfl, hc⟩ := h5 (by intro e; subst e; simp at hj)
 exact ⟨b, o, cap, rfl, hc j r hj⟩
theorem ReadsR.turn {k : Nat} {w w' : World} {v : Value} {rs : List (List Value)} (h : ReadsR k w v rs) (hc : ∀ g o x, v.ownBlock = some g → w.cell? ⟨g, o, none⟩ = some x → (∃ r ∈ rs, x ∈ r) → w'.cell? ⟨g, o, none⟩ = some x) : ReadsR k w' v rs := by
 obtain ⟨a, cap, rfl, h2, h3, h4, h5⟩ := h
 refine ⟨a, cap, rfl, h2, h3, h4, fun hl => ?_⟩
 obtain ⟨b, o, rfl, hh⟩ := h5 hl
 exact ⟨b, o, rfl, fun j r hj i x hx => hc b _ x rfl (hh j r hj i x hx) ⟨r, List.mem_of_getElem? hj, List.mem_of_getElem? hx⟩⟩
theorem ReadsR.kept {k : Nat} {S : List Nat} {w w' : World} {v : Value} {rs : List (List Value)} (h : ReadsR k w v rs) (kk : Kept S w w') (hn : ∀ g, v.ownBlock = some g → g ∉ S) : ReadsR k w' v rs :=
 h.turn fun g o x hg hx _ => by rw [kk.cell (World.block_lt_of_cell? w _ hx) (hn g hg)]; exact hx
theorem ReadsR.lt {k : Nat} {w : World} {v : Value} {rs : List (List Value)} (h : ReadsR k w v rs) (hw : Wide k rs) (hk : 0 < k) (hne : rs ≠ []) : ∃ g, v.ownBlock = some g ∧ g < w.heap.size := by
 cases rs with
 | nil => exact absurd rfl hne
 | cons r rs =>
  obtain ⟨b, o, c, rfl, hc⟩ := h.at 0 r rfl
  have hl := (hw r (by simp)).1
  cases r with
  | nil => simp at hl; omega
  | cons x r => exact ⟨b, rfl, World.block_lt_of_cell? w _ (hc 0 x rfl)⟩
def OwnsR (e : TypeId) (k : Nat) (w : World) (v : Value) (rs : List (List Value)) : Prop := w.ownsRow 0 e k v rs.length rs.flatten
theorem OwnsR.nil (e : TypeId) (k : Nat) (w : World) : OwnsR e k w (.slice none 0 0) [] := World.ownsRow_nil w 0 e k
theorem OwnsR.form {e : TypeId} {k : Nat} {w : World} {v : Value} {rs : List (List Value)} (h : OwnsR e k w v rs) : ∃ a c, v = .slice a rs.length c ∧ rs.length ≤ c ∧ c ≤ 9223372036854775807 := by
 rcases h.2 with ⟨rfl, h0⟩ | ⟨g, cap, cur, rfl, _, _, h1, h2, _⟩
 ·exact ⟨none, 0, by rw [h0], by omega, by omega⟩
 ·exact ⟨_, cap, rfl, h1, h2⟩
theorem OwnsR.kept {e : TypeId} {k : Nat} {S : List Nat} {w w' : World} {v : Value} {rs : List (List Value)} (h : OwnsR e k w v rs) (kk : Kept S w w') (hn : ∀ g, v.ownBlock = some g → g ∉ S) : OwnsR e k w' v rs := ownsRow_keep h kk hn
theorem OwnsR.reads {e : TypeId} {k : Nat} {w : World} {v : Value} {rs : List (List Value)} (h : OwnsR e k w v rs) (hw : Wide k rs) : ReadsR k w v rs := by
 have hcells := fun g hg => World.ownsRow.cells h (g := g) hg
 rcases h.2 with ⟨rfl, h0⟩ | ⟨g, cap, cur, rfl, _, hg, h1, h2, h3, h4⟩
 ·have : rs = [] := List.eq_nil_of_length_eq_zero h0
  subst this
  exact ReadsR.nil k w
 ·refine ⟨some ⟨g, 0, none⟩, cap, rfl, h1, h2, by simp, fun hl => ⟨g, 0, rfl, fun j r hj i x hx => ?_⟩⟩
  have f1 := hcells g rfl _ _ (hw.at j r hj i x hx)
  rw [add_at] at f1
  rw [Nat.add_assoc]
  exact f1
structure RowT (T e : TypeId) (k b : Nat) (z : Value) : Prop where
 under : Tryz.prog.underlying T = some (.slice e)
 info : (Tryz.prog.info? e).map (fun i => (i.zero, i.size, i.bytes)) = some (some z, k, b)
 zlen : z.cells.size = k
 kpos : 0 < k
 bytes : b ≤ 128
section
variable {T e : TypeId} {k b : Nat} {z : Value}
theorem run_appendR (R : RowT T e k b z) (w : World) (ty : TypeId) (v : Value) (l : List (List Value)) (hown : OwnsR e k w v l) (x : Value) (m : List (List Value)) (hm : Wide k m) (hr : ReadsR k w x m) (hb : l.length + m.length ≤ 1000000) :
  ∃ ad c w', (Builtin.append_ #[T, T] ty #[v, x]).run Tryz.prog w = .ok (.slice ad (l.length + m.length) c) w' ∧ OwnsR e k w' (.slice ad (l.length + m.length) c) (l ++ m) ∧ w.grownBy w' v.ownBlock ∧ New w v (.slice ad (l.length + m.length) c) := by
 obtain ⟨i0, hi, hz0, hz1, hz2⟩ := info_parts R.info
 have key : ∀ v' w', (Builtin.append_ #[T, T] ty #[v, x]).run Tryz.prog w = .ok v' w' → OwnsR e k w' v' (l ++ m) → w.grownBy w' v.ownBlock → New w v v' → ∃ ad c w', (Builtin.append_ #[T, T] ty #[v, x]).run Tryz.prog w = .ok (.slice ad (l.length + m.length) c) w' ∧ OwnsR e k w' (.slice ad (l.length + m.length) c) (l ++ m) ∧ w.grownBy w' v.ownBlock ∧ New w v (.slice ad (l.length + m.length) c) := by
  intro v' w' h1 h2 h3 h4
  obtain ⟨ad, cap, rfl, -⟩ := h2.form
  rw [List.length_append] at h1 h2 h4
  exact ⟨ad, cap, w', h1, h2, h3, h4⟩
 obtain ⟨a, cap, rfl, h2, h3, h4, h5⟩ := hr
 cases a with
 | none =>
  have hc := h4 rfl
  subst hc
  have h0 : m = [] := List.eq_nil_of_length_eq_zero (by omega)
  subst h0
  have hrun := run_append_owned_none (P := Tryz.prog) (w := w) 0 T ty e i0 k R.under hi v l.length l.flatten hown
  exact key v w hrun (by rw [List.append_nil]; exact hown) ⟨rfl, rfl, rfl, Nat.le_refl _, fun _ _ _ => rfl⟩ (New.refl w v)
 | some a =>
  have hcell : ∀ j u, m.flatten[j]? = some u → w.cell? (a.add j) = some u := by
   intro j u hu
   obtain ⟨p, r, i, hp, hi', rfl⟩ := hm.inv j u hu
   obtain ⟨b, o, hab, hc⟩ := h5 (fun h => by subst h; simp at hp)
   simp at hab
   subst hab
   have := hc p r hp i u hi'
   rw [add_at, ← Nat.add_assoc]
   exact this
  obtain ⟨v', w', hrun, e1, e2, e3, e4⟩ := run_append_own_at (P := Tryz.prog) w 0 T ty e i0 z k b R.under hi hz0 hz1 hz2 R.zlen R.kpos v l.length l.flatten hown a m.length cap m.flatten hm.flat_length hcell hm.one (by unfold maxLen; omega) (by
   have := R.bytes
   have h1 : (l.length + m.length) * b ≤ 1000000 * 128 := Nat.mul_le_mul hb this
   omega) (Nat.zero_le _)
  refine key v' w' hrun ?_ e2 ?_
  ·unfold OwnsR; rw [List.flatten_append, List.length_append]; exact e1
  ·intro g hg
   rcases e4 with h | h
   ·exact .inl (by rw [← h]; exact hg)
   ·exact .inr (Nat.le_of_eq (Option.some.inj (h.symm.trans hg)))
theorem reads_newR (w : World) (cs : List Value) (hc : cs.length = k) (t : TypeId) (fr : Nat × Nat) : ReadsR k (w.alloc (.cells cs.toArray t fr)) (.slice (some ⟨w.heap.size, 0, none⟩) 1 1) [cs] := by
 have hh : (w.alloc (.cells cs.toArray t fr)).heap[w.heap.size]? = some (.cells cs.toArray t fr) := heap_alloc_new w _
 refine ⟨_, 1, rfl, by simp, by unfold maxLen; omega, by simp, fun _ => ⟨w.heap.size, 0, rfl, fun j u hu i x hx => ?_⟩⟩
 cases j with
 | zero =>
  simp at hu
  subst hu
  unfold World.cell?
  rw [hh]
  simpa using hx
 | succ j => simp at hu
theorem append_rowR (R : RowT T e k b z) {w : World} {v : Value} {l : List (List Value)} (ho : OwnsR e k w v l) (cs : List Value) (hc : cs.length = k) (h1 : ∀ u ∈ cs, u.oneCell' = true) (hn : l.length ≤ 900000) (t : TypeId) (fr : Nat × Nat) (ty : TypeId) :
  ∃ ad c w', (Builtin.append_ #[T, T] ty #[v, .slice (some ⟨w.heap.size, 0, none⟩) 1 1]).run Tryz.prog (w.alloc (.cells cs.toArray t fr)) = .ok (.slice ad (l.length + 1) c) w' ∧ OwnsR e k w' (.slice ad (l.length + 1) c) (l ++ [cs]) ∧ Kept v.ownBlock.toList w w' ∧ New w v (.slice ad (l.length + 1) c) := by
 have k0 := (Kept.refl [] w).alloc (.cells cs.toArray t fr)
 obtain ⟨ad, c, w', hrun, hO, hg, hN⟩ := run_appendR R _ ty v l (ho.kept k0 (by simp)) _ [cs] (fun r hr => by simp at hr; subst hr; exact ⟨hc, h1⟩) (reads_newR (k := k) w cs hc t fr) (by simp; omega)
 refine ⟨ad, c, w', hrun, hO, (k0.mono (by simp)).grown hg (fun x hx => .inl (by rw [Option.mem_toList]; exact hx)), fun g hg => ?_⟩
 rcases hN g hg with h | h
 ·exact .inl h
 ·exact .inr (Nat.le_trans k0.size h)
theorem RowT.size (R : RowT T e k b z) (w : World) : (Go.sizeOf e).run Tryz.prog w = .ok k w := by
 obtain ⟨i0, hi, hz0, hz1, hz2⟩ := info_parts R.info
 simp [Go.sizeOf, typeInfo, hi, hz1]
theorem RowT.elem (R : RowT T e k b z) : Tryz.prog.elem T = e := by simp [Program.elem, R.under]
def cutA (a : Option Addr) (c i k : Nat) : Option Addr := if c = i then a else a.map (·.add (i * k))
theorem ReadsR.cut {w : World} {a : Option Addr} {n c i j m : Nat} {rs : List (List Value)} (hn : n = rs.length) (h : ReadsR k w (.slice a n c) rs) (hij : i ≤ j) (hj : j ≤ n) (hjm : j ≤ m) (hm : m ≤ c) : ReadsR k w (.slice (cutA a m i k) (j - i) (m - i)) ((rs.take j).drop i) := by
 subst hn
 obtain ⟨a0, cap0, hv, h2, h3, h4, h5⟩ := h
 injection hv with e1 e2 e3
 subst e1 e3
 have hl : ((rs.take j).drop i).length = j - i := by rw [List.length_drop, List.length_take]; omega
 refine ⟨_, m - i, by rw [hl], by rw [hl]; omega, by omega, ?_, ?_⟩
 ·intro hn
  unfold cutA at hn
  by_cases hc : m = i
  ·omega
  ·rw [if_neg hc] at hn
   have : a = none := by cases a <;> simp_all
   have := h4 this
   omega
 ·intro hne
  have hlt : i < j := by
   rcases Nat.lt_or_ge i j with h | h
   ·exact h
   ·exact absurd (List.length_eq_zero_iff.1 (by rw [hl]; omega)) hne
  obtain ⟨b, o, rfl, hc⟩ := h5 (by intro h; subst h; simp at hj; omega)
  refine ⟨b, o + i * k, by unfold cutA; rw [if_neg (by omega), Option.map_some, add_at], fun p r hp q x hx => ?_⟩
  rw [List.getElem?_drop, List.getElem?_take] at hp
  split at hp
  ·have := hc (i + p) r hp q x hx
   rw [show o + (i + p) * k + q = o + i * k + p * k + q by rw [Nat.add_mul]; omega] at this
   exact this
  ·cases hp
end
theorem rnum_back (n : Nat) (h : n < 18446744073709551616) (rest : List UInt8) : rnum (enc n ++ rest) false = (n, rest, false) := by
 have hl := enc_length n
 unfold rnum
 rw [dec_enc n h rest, if_neg (by omega)]
 simp
theorem rtext_back (s : List UInt8) (h : s.length < 18446744073709551616) (rest : List UInt8) : rtext (enc s.length ++ (s ++ rest)) false = (s, rest, false) := by
 unfold rtext
 rw [rnum_back s.length h]
 simp
end Go.Proofs.YtngnenbidpojeaaGreatDoor
