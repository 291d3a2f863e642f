/-
  Slices of bytes that are cut, held against each other, cloned; a row of the statement's as bytes.
-/
import Derived.Test.YtapbeemgkbimcaaSealed
import Derived.Lib.SliceRun
import Derived.Laws.IdiomStrings
import Derived.ProofKit
import Derived.OpenShut
namespace Go.Proofs.Ytapbeemgkbimcaa
open Go.RowKit
set_option linter.unusedVariables false

/-- The slice v1 lies where v lay, or nowhere. -/
def Within (v v1 : Value) : Prop := ∀ g, v1.ownBlock = some g → v.ownBlock = some g

theorem Within.refl (v : Value) : Within v v := fun _ h => h
theorem Within.trans {v v1 v2 : Value} (h : Within v v1) (k : Within v1 v2) : Within v v2 := fun g hg => h g (k g hg)

/-- 'v[k:]'. -/
theorem slice_from {P : Program} (t e : TypeId) (ht : P.underlying t = some (.slice e)) (hz : ∀ w, (Go.sizeOf e).run P w = .ok 1 w) (kl : IntKind) (a : Option Addr) (cap k : Nat) (l : List UInt8) (w : World) (h : Reads w (.slice a l.length cap) l) (hk : k ≤ l.length) :
    ∃ a' c', (∀ W, (Instr.slice t (.slice a l.length cap) (some (.int kl (k : Int))) none none).run P W = .ok (.slice a' (l.length - k) c') W) ∧ Reads w (.slice a' (l.length - k) c') (l.drop k) ∧ Within (.slice a l.length cap) (.slice a' (l.length - k) c') := by
  have ht' : P.underlying t = some (.slice (P.elem t)) := by simp [Program.elem, ht]
  have he : P.elem t = e := by simp [Program.elem, ht]
  obtain ⟨a0, cap0, hv, h2, h3, h4, h5⟩ := h
  injection hv with e1 e2 e3
  subst e1 e3
  refine ⟨if cap = k then a else a.map (·.add (k * 1)), cap - k, fun W => ?_, ?_, ?_⟩
  · rw [run_slice_l W t _ _ _ ht' kl _ (by omega) (by omega), he, hz]
    simp [Result.andThen, sliced]
  · refine ⟨_, cap - k, by rw [List.length_drop], by rw [List.length_drop]; omega, by omega, ?_, ?_⟩
    · intro hn
      by_cases hc : cap = k
      · omega
      · rw [if_neg hc] at hn
        have : a = none := by cases a <;> simp_all
        have := h4 this
        omega
    · intro hne
      have hlt : k < l.length := by
        rcases Nat.lt_or_ge k l.length with h | h
        · exact h
        · exact absurd (List.drop_eq_nil_of_le h) hne
      obtain ⟨b, o, rfl, hc⟩ := h5 (by intro h; subst h; simp at hlt)
      refine ⟨b, o + k, ?_, fun j u hu => ?_⟩
      · rw [if_neg (by omega)]
        simp only [Option.map_some, Nat.mul_one]
        congr 1
        unfold Addr.add; split <;> simp_all
      · rw [List.getElem?_drop] at hu
        have := hc (k + j) u hu
        rw [Nat.add_assoc]
        exact this
  · intro g hg
    by_cases hc : cap = k
    · rw [if_pos hc] at hg
      cases a <;> exact hg
    · rw [if_neg hc] at hg
      cases a with
      | none => simp [Value.ownBlock] at hg
      | some x =>
        simp only [Option.map_some, Value.ownBlock] at hg ⊢
        rw [← hg]
        congr 1
        unfold Addr.add; split <;> rfl

/-- 'v[:k]'. -/
theorem slice_to {P : Program} (t e : TypeId) (ht : P.underlying t = some (.slice e)) (hz : ∀ w, (Go.sizeOf e).run P w = .ok 1 w) (kh : IntKind) (a : Option Addr) (cap k : Nat) (l : List UInt8) (w : World) (h : Reads w (.slice a l.length cap) l) (hk : k ≤ l.length) :
    ∃ a' c', (∀ W, (Instr.slice t (.slice a l.length cap) none (some (.int kh (k : Int))) none).run P W = .ok (.slice a' k c') W) ∧ Reads w (.slice a' k c') (l.take k) := by
  have ht' : P.underlying t = some (.slice (P.elem t)) := by simp [Program.elem, ht]
  have he : P.elem t = e := by simp [Program.elem, ht]
  obtain ⟨a0, cap0, hv, h2, h3, h4, h5⟩ := h
  injection hv with e1 e2 e3
  subst e1 e3
  have hl : (l.take k).length = k := by rw [List.length_take]; omega
  refine ⟨if cap = 0 then a else a.map (·.add 0), cap, fun W => ?_, ?_⟩
  · rw [run_slice_h W t _ _ _ ht' kh _ (by omega) (by omega), he, hz]
    simp [Result.andThen, sliced]
  · refine ⟨_, cap, by rw [hl], by omega, h3, ?_, ?_⟩
    · intro hn
      by_cases hc : cap = 0
      · exact hc
      · rw [if_neg hc] at hn
        have : a = none := by cases a <;> simp_all
        exact h4 this
    · intro hne
      have hne' : l ≠ [] := by intro h; subst h; simp at hne
      obtain ⟨b, o, rfl, hc⟩ := h5 hne'
      have hpos : 0 < l.length := List.length_pos_iff.2 hne'
      refine ⟨b, o, ?_, fun j u hu => ?_⟩
      · rw [if_neg (by omega)]
        simp [Addr.add]
      · have hj : j < k := by
          have := (List.getElem?_eq_some_iff.1 hu).1; omega
        rw [List.getElem?_take_of_lt hj] at hu
        exact hc j u hu

/-- 'string(v)'. -/
theorem string_of {P : Program} (t e : TypeId) (ht : P.underlying t = some (.slice e)) (u : TypeId) (he : P.underlying e = some (.int .u8)) (hu : P.underlying u = some .string) (v : Value) (l : List UInt8) (w : World) (h : Reads w v l) :
    (convert t u v).run P w = .ok (.string ⟨l.toArray⟩) w := by
  obtain ⟨a, cap, rfl, h2, h3, h4, h5⟩ := h
  cases a with
  | none =>
    have h0 : l = [] := List.eq_nil_of_length_eq_zero (by have := h4 rfl; omega)
    subst h0
    rw [run_convert_bytes_string w t u e _ _ _ ht he hu]
    simp [Conv.bytesToString]
    rfl
  | some a =>
    refine run_convert_bytes_back w t u e a cap l ht he hu fun j hj => ?_
    obtain ⟨b, o, hab, hc⟩ := h5 (by intro h; subst h; simp at hj)
    simp at hab
    subst hab
    have hadd : (⟨b, o, Option.none⟩ : Addr).add j = ⟨b, o + j, Option.none⟩ := by unfold Addr.add; split <;> simp_all
    rw [hadd]
    exact hc j l[j] (by simp)

theorem reads_of_row (W : World) (x : Addr) (zs : List Int) {len cap : Nat} (hl : len ≤ cap) (hm : cap ≤ maxLen) (hz : zs.length = cap) (hcell : ∀ i, i < zs.length → W.cell? (x.add i) = some (.int .u8 (zs.getD i 0))) (hwz : ∀ n ∈ zs, (Lit.int .u8 n).wf = true) (hb : len ≤ 140737488351232) :
    ∃ l, Reads W (.slice (some x) len cap) l ∧ l.length ≤ 140737488351232 := by
  have hlen : ((zs.take len).map fun z => UInt8.ofNat z.toNat).length = len := by rw [List.length_map, List.length_take]; omega
  refine ⟨(zs.take len).map fun z => UInt8.ofNat z.toNat, ⟨some x, cap, by rw [hlen], by omega, hm, by simp, fun hne => ?_⟩, by omega⟩
  have hpos : 0 < len := by
    rcases Nat.eq_zero_or_pos len with h | h
    · subst h; simp at hne
    · exact h
  obtain ⟨b, o, spot⟩ := x
  have hc := hcell 0 (by omega)
  have hspot : spot = none := by simpa [Addr.add] using World.cell?_spot hc
  subst hspot
  refine ⟨b, o, rfl, fun j u hu => ?_⟩
  rw [List.getElem?_map, Option.map_eq_some_iff] at hu
  obtain ⟨z, hz1, rfl⟩ := hu
  have hj : j < len := by
    have := (List.getElem?_eq_some_iff.1 hz1).1
    rw [List.length_take] at this; omega
  rw [List.getElem?_take_of_lt hj] at hz1
  have h := hcell j (by omega)
  have hadd : (⟨b, o, Option.none⟩ : Addr).add j = ⟨b, o + j, Option.none⟩ := by unfold Addr.add; split <;> simp_all
  rw [hadd] at h
  rw [h]
  have hzz : zs.getD j 0 = z := by simp [List.getD, hz1]
  rw [hzz]
  have hw := bounds_u8 (hwz z (List.mem_of_getElem? hz1))
  congr 1
  exact (B8_of z.toNat z (by omega))


/-- 'v[l:l+k]', of a row that lies somewhere. -/
theorem slice_mid (b o len cap l k : Nat) (h1 : l + k ≤ cap) (h2 : l < cap) (W : World) :
    (Instr.slice 22 (.slice (some ⟨b, o, none⟩) len cap) (some (.int .i64 (l : Int))) (some (.int .i64 ((l : Int) + (k : Int)))) none).run Try.prog W = .ok (.slice (some ⟨b, o + l, none⟩) k (cap - l)) W := by
  obtain ⟨i0, hi, hz0, hz1, hz2⟩ := info_parts inf5
  have ht' : Try.prog.underlying 22 = some (.slice (Try.prog.elem 22)) := by simp [Program.elem, Try.underlying22]
  have he : Try.prog.elem 22 = 5 := by simp [Program.elem, Try.underlying22]
  have hz : ∀ w, (Go.sizeOf 5).run Try.prog w = .ok 1 w := fun w => by simp [Go.sizeOf, typeInfo, hi, hz1]
  rw [run_slice_lh W 22 _ _ _ ht' .i64 .i64 _ _ (by omega) (by omega) (by omega), he, hz]
  have e1 : ((l : Int) + (k : Int)).toNat = l + k := by omega
  have e2 : ¬ cap = l := by omega
  have e3 : (⟨b, o, none⟩ : Addr).add l = ⟨b, o + l, none⟩ := by unfold Addr.add; split <;> simp_all
  simp [Result.andThen, sliced, e1, e2, e3]

theorem str_ne (l m : List UInt8) (h : l ≠ m) : ((⟨l.toArray⟩ : ByteArray).toList == (⟨m.toArray⟩ : ByteArray).toList) = false := by
  rw [ByteArray.toList_mk, ByteArray.toList_mk]; simpa using h

set_option maxHeartbeats 400000 in
theorem equal_yes (v1 v2 : Value) (l : List UInt8) (w : World) (h1 : Reads w v1 l) (h2 : Reads w v2 l) :
    Calls Try.prog 16 #[v1, v2] w fun e w' => e = .returned (.bool true) ∧ w = w' := by
  have s1 := string_of (P := Try.prog) 22 5 Try.underlying22 9 Try.underlying5 Try.underlying9 v1 l w h1
  have s2 := string_of (P := Try.prog) 22 5 Try.underlying22 9 Try.underlying5 Try.underlying9 v2 l w h2
  generalize (⟨l.toArray⟩ : ByteArray) = s at s1 s2
  go_enter Try.func16, Try.ntmps16
  go_wp2
  go_ret
  exact ⟨rfl, rfl⟩

set_option maxHeartbeats 400000 in
theorem equal_no (v1 v2 : Value) (l1 l2 : List UInt8) (w : World) (h1 : Reads w v1 l1) (h2 : Reads w v2 l2) (hne : l1 ≠ l2) :
    Calls Try.prog 16 #[v1, v2] w fun e w' => e = .returned (.bool false) ∧ w = w' := by
  have s1 := string_of (P := Try.prog) 22 5 Try.underlying22 9 Try.underlying5 Try.underlying9 v1 l1 w h1
  have s2 := string_of (P := Try.prog) 22 5 Try.underlying22 9 Try.underlying5 Try.underlying9 v2 l2 w h2
  have hb := str_ne l1 l2 hne
  generalize (⟨l1.toArray⟩ : ByteArray) = t1 at s1 hb
  generalize (⟨l2.toArray⟩ : ByteArray) = t2 at s2 hb
  go_enter Try.func16, Try.ntmps16
  go_wp2
  go_ret
  exact ⟨rfl, rfl⟩

/-- The slice v lies in memory that is new since w. -/
def Fresh (w : World) (v : Value) : Prop := ∀ g, v.ownBlock = some g → w.heap.size ≤ g

set_option maxHeartbeats 400000 in
theorem clone_nil (c : Nat) (w : World) : Calls Try.prog 17 #[.slice none 0 c] w fun e w' => e = .returned (.slice none 0 0) ∧ w = w' := by
  have hq := fun w : World => Lib.run_eql_slice_nil (P := Try.prog) w 22 5 none 0 c 0 0 Try.underlying22
  go_enter Try.func17, Try.ntmps17
  go_wp2
  go_ret
  exact ⟨rfl, rfl⟩

set_option maxHeartbeats 400000 in
theorem clone_some (a : Addr) (c : Nat) (l : List UInt8) (w : World) (hl : l.length ≤ 140737488355328) (hc : ∀ j u, l[j]? = some u → w.cell? (a.add j) = some (B8 u)) :
    Calls Try.prog 17 #[.slice (some a) l.length c] w fun e w' => ∃ v', e = .returned v' ∧ Owns 5 w' v' l ∧ Kept [] w w' ∧ Fresh w v' := by
  obtain ⟨i0, hi, hz0, hz1, hz2⟩ := info_parts inf5
  have hq := fun w : World => Lib.run_eql_slice_nil (P := Try.prog) w 22 5 (some a) l.length c 0 0 Try.underlying22
  have hcell : Hid (∀ j u, (C8 l)[j]? = some u → (w.alloc (.cells #[] 5)).cell? (a.add j) = some u) := by
    intro j u hu
    simp only [C8, List.getElem?_map, Option.map_eq_some_iff] at hu
    obtain ⟨b, hb, rfl⟩ := hu
    have h1 := hc j b hb
    rw [World.cell?_of_block (w := w) (Below.heap_alloc _ _ _ (World.block_lt_of_cell? w _ h1))]
    exact h1
  have hmade := World.ownsRow_made (base := 0) (e := 5) (size := 1) w #[] 0 (Nat.zero_le _) (by simp) (by simp)
  clear hc
  go_enter Try.func17, Try.ntmps17
  go_wp2_with (at_builtin; refine wpList_append_own_at _ rfl _ _ _ rfl 0 5 i0 _ 1 1 Try.underlying22 hi hz0 hz1 hz2 rfl (by omega) _ 0 [] rfl hmade a l.length c (C8 l) rfl (by rw [C8_length, Nat.mul_one]) hcell.out (C8_one l) (by unfold maxLen; omega) (by omega) (by omega) ?_; intro v1 w1 hown hgrow hnil hat)
  go_ret
  refine ⟨v1, rfl, ?_, ((Kept.refl [] w).alloc _).grown hgrow ?_, ?_⟩
  · rw [Nat.zero_add] at hown; exact hown
  · intro k hk
    have hk' : some w.heap.size = some k := hk
    injection hk' with hk'
    exact .inr (by omega)
  · intro g hg
    rcases hat with h | h
    · have h' : some g = some w.heap.size := hg.symm.trans h
      injection h' with h'
      omega
    · rw [hg] at h; simp at h; omega

/-- bytes.Clone: the same bytes, in new memory. -/
theorem clone_any (v : Value) (l : List UInt8) (w : World) (h : Reads w v l) (hl : l.length ≤ 140737488355328) :
    Calls Try.prog 17 #[v] w fun e w' => ∃ v', e = .returned v' ∧ Owns 5 w' v' l ∧ Kept [] w w' ∧ Fresh w v' := by
  obtain ⟨a, cap, rfl, h2, h3, h4, h5⟩ := h
  match a with
  | none =>
    have hc := h4 rfl
    subst hc
    have h0 : l = [] := List.eq_nil_of_length_eq_zero (by omega)
    subst h0
    exact (clone_nil 0 w).mono fun e w' ⟨he, hw⟩ => ⟨_, he, hw ▸ Owns.nil 5 w, hw ▸ Kept.refl [] w, fun g hg => by simp [Value.ownBlock] at hg⟩
  | some a =>
    refine clone_some a cap l w hl fun j u hu => ?_
    have hne : l ≠ [] := fun h => by subst h; simp at hu
    obtain ⟨b, o, hab, hc⟩ := h5 hne
    simp at hab
    subst hab
    have hadd : (⟨b, o, Option.none⟩ : Addr).add j = ⟨b, o + j, Option.none⟩ := by unfold Addr.add; split <;> simp_all
    rw [hadd]
    exact hc j u hu


end Go.Proofs.Ytapbeemgkbimcaa
