/-
  CodecOne: the walk.
-/
import Derived.Test.YtkhgdeklgcafpaaOrdWalk
import Derived.OpenShut
import Derived.Deep.QuietTactic
import Derived.BigQuiet
namespace Go.Proofs.Ytkhgdeklgcafpaa
open Go.RowKit
attribute [local go_sem ↓] Go.wp_at_zero Go.wp_at_succ

/-- Bytes that are read stay where no old block of theirs turns. -/
theorem Reads.kept2 {S : List Nat} {w w' : World} {v : Value} {l : List UInt8} (h : Reads w v l) (k : Kept S w w') (hn : ∀ g, v.ownBlock = some g → g < w.heap.size → g ∉ S) : Reads w' v l := by
  by_cases hl : l = []
  · obtain ⟨a, cap, rfl, h2, h3, h4, h5⟩ := h
    exact ⟨a, cap, rfl, h2, h3, h4, fun h => absurd hl h⟩
  · obtain ⟨g, hg, hlt⟩ := h.lt hl
    exact h.kept k fun g' hg' => hn g' hg' (by rw [hg] at hg'; injection hg' with e; omega)

theorem IsR.kept2 {t : TypeId} {S : List Nat} {w w' : World} {p : Nat} {v : Value} {l : List UInt8} {bad : Bool} (h : IsR t w p v l bad) (k : Kept S w w') (hS : ∀ g ∈ S, w.heap.size ≤ g) : IsR t w' p v l bad :=
  ⟨k.keeps h.box (fun hm => by have := hS p hm; have := h.lt; omega), h.reads.kept2 k (fun g _ hlt hm => by have := hS g hm; omega), h.apart, h.none⟩

theorem IsW.kept2 {t e : TypeId} {S : List Nat} {w w' : World} {p : Nat} {v : Value} {l : List UInt8} (h : IsW t e w p v l) (k : Kept S w w') (hS : ∀ g ∈ S, w.heap.size ≤ g) : IsW t e w' p v l :=
  h.kept k (fun hm => by have := hS p hm; have := h.lt; omega) (fun g hg hm => by have := hS g hm; have := h.own.lt hg; omega)

theorem Reads.drew {w : World} {v : Value} {l : List UInt8} (h : Reads w v l) : Reads w.drew v l := h
theorem IsR.drewN {t : TypeId} {w : World} {p : Nat} {v : Value} {l : List UInt8} {bad : Bool} (h : IsR t w p v l bad) (k : Nat) : IsR t (w.drewN k) p v l bad := ⟨h.box, h.reads, h.apart, h.none⟩
theorem IsR.drew {t : TypeId} {w : World} {p : Nat} {v : Value} {l : List UInt8} {bad : Bool} (h : IsR t w p v l bad) : IsR t w.drew p v l bad := ⟨h.box, h.reads, h.apart, h.none⟩

/-- A row of numbers that fit a byte reads as bytes. -/
theorem reads_of_row (W : World) (x : Addr) (zs : List Int) {len cap : Nat} (hl : len ≤ cap) (hm : cap ≤ maxLen) (hz : zs.length = cap) (hcell : ∀ i, i < zs.length → W.cell? (x.add i) = some (.int .u8 (zs.getD i 0))) (hwz : ∀ n ∈ zs, (Lit.int .u8 n).wf = true) (hb : len ≤ 140737488351232) :
    ∃ l, Reads W (.slice (some x) len cap) l ∧ l.length ≤ 140737488351232 := by
  have hlen : ((zs.take len).map fun z => UInt8.ofNat z.toNat).length = len := by rw [List.length_map, List.length_take]; omega
  refine ⟨(zs.take len).map fun z => UInt8.ofNat z.toNat, ⟨some x, cap, by rw [hlen], by omega, hm, by simp, fun hne => ?_⟩, by omega⟩
  have hpos : 0 < len := by
    rcases Nat.eq_zero_or_pos len with h | h
    · subst h; simp at hne
    · exact h
  obtain ⟨b, o, spot⟩ := x
  have hc := hcell 0 (by omega)
  have hspot : spot = none := by simpa [Addr.add] using World.cell?_spot hc
  subst hspot
  refine ⟨b, o, rfl, fun j u hu => ?_⟩
  rw [List.getElem?_map, Option.map_eq_some_iff] at hu
  obtain ⟨z, hz1, rfl⟩ := hu
  have hj : j < len := by
    have := (List.getElem?_eq_some_iff.1 hz1).1
    rw [List.length_take] at this; omega
  rw [List.getElem?_take_of_lt hj] at hz1
  have h := hcell j (by omega)
  have hadd : (⟨b, o, Option.none⟩ : Addr).add j = ⟨b, o + j, Option.none⟩ := by unfold Addr.add; split <;> simp_all
  rw [hadd] at h
  rw [h]
  have hzz : zs.getD j 0 = z := by simp [List.getD, hz1]
  rw [hzz]
  have hw := bounds_u8 (hwz z (List.mem_of_getElem? hz1))
  congr 1
  exact (B8_of z.toNat z (by omega))

/-- Bytes that are read as a number, wholly, are its own. -/
theorem one_plain (l : List UInt8) (h : (!(rnum l false).2.2 && (rnum l false).2.1.isEmpty) = true) : enc (rnum l false).1 = l := by
  unfold rnum at h ⊢
  by_cases hk : (dec l).2 = 0
  · rw [if_pos hk] at h; simp at h
  · rw [if_neg hk] at h ⊢
    have h2 : (l.drop (dec l).2).isEmpty = true := by simpa using h
    have h3 : l.length ≤ (dec l).2 := by
      rw [List.isEmpty_iff] at h2
      exact List.drop_eq_nil_iff.1 h2
    rw [enc_dec l hk, List.take_of_length_le h3]

set_option maxHeartbeats 4000000 in
theorem one_walk (v : Value) (l : List UInt8) (hl : l.length ≤ 140737488351232) (w : World) (hv : Reads w v l) :
    Calls Try.prog 6 #[v] w fun e w' => e = .returned (.bool true) ∧ Kept [] w w' := by
  have hnlt := rnum_lt l false
  have hun := unfold_bound _ hnlt
  go_enter Try.func6, Try.ntmps6
  go_wp2_with fail
  refine (awake_any _).mono ?_
  rintro e w1 ⟨rfl, hk1⟩
  have hv1 := hv.kept hk1 (by simp)
  go_wp2_with fail
  refine (newr_any v l _ hv1 (by omega)).mono ?_
  rintro e w2 ⟨r, vr, rfl, hr2, hk2, hfr2, hrp⟩
  have hw2 := hk1.trans hk2 (by simp)
  go_wp2_with fail
  refine (rnum_any r vr l false _ hr2).mono ?_
  rintro e w3 ⟨rfl, vr3, hr3, hk3, hi3⟩
  have s1 := hk1.size
  have s2 := hk2.size
  have hw3 := hw2.trans hk3 (by simp; omega)
  have hv3 := hv.kept hw3 (by simp)
  have hr3l := hr3.lt
  go_wp2_with fail
  refine (newr_any v l _ hv3 (by omega)).mono ?_
  rintro e w4 ⟨x, vx, rfl, hx4, hk4, hfx4, hxp⟩
  have hw4 := hw3.trans hk4 (by simp)
  have hr4 := hr3.kept hk4 (by simp) (by simp)
  go_wp2_with fail
  refine (rint_any x vx l false _ hx4).mono ?_
  rintro e w5 ⟨rfl, vx5, hx5, hk5, hi5⟩
  have s3 := hk3.size
  have s4 := hk4.size
  have hw5 := hw4.trans hk5 (by simp; omega)
  have hk35 : Kept [x] w3 w5 := (hk4.mono (by simp)).trans hk5 (by simp)
  have hr5 := hr3.kept2 hk35 (by simp; omega)
  clear hr2 hr3 hr4 hx4 hx5 hv1 hv3
  go_wp2_with fail
  refine (newW _).mono ?_
  rintro e w6 ⟨p, rfl, hp6, hk6, hpp⟩
  have hr6 := hr5.kept2 hk6 (by simp)
  have hw6 := hw5.trans hk6 (by simp)
  go_wp2_with fail
  refine (newW _).mono ?_
  rintro e w7 ⟨q, rfl, hq7, hk7, hqq⟩
  have hr7 := hr6.kept2 hk7 (by simp)
  have hp7 := hp6.kept2 hk7 (by simp)
  have hw7 := hw6.trans hk7 (by simp)
  have hpl := hp6.lt
  have hql := hq7.lt
  have hrl := hr5.lt
  have s6 := hk6.size
  have s7 := hk7.size
  have s5 := hk35.size
  go_wp2_with fail
  refine (wnum_any p _ [] (rnum l false).1 _ hp7 hnlt (by simp)).mono ?_
  rintro e w8 ⟨rfl, v8, hp8, hk8, hn8⟩
  rw [foot_nil] at hk8
  have hf8 := new_nil hn8
  have hw8 := hw7.trans hk8 (by simp; omega)
  have hq8 := hq7.kept hk8 (by simp; omega) (by simp [Value.ownBlock])
  have hk58 : Kept [p] w5 w8 := ((hk6.mono (by simp)).trans hk7 (by simp)).trans hk8 (by simp)
  have s8 := hk8.size
  go_wp2_with fail
  refine (wint_any q _ [] (unfold (rnum l false).1) _ hq8 hun.1 hun.2 (by simp)).mono ?_
  rintro e w9 ⟨rfl, v9, hq9, hk9, hn9⟩
  rw [foot_nil] at hk9
  rw [fold_unfold] at hq9
  have hw9 := hw8.trans hk9 (by simp; omega)
  have hp9 := hp8.kept hk9 (by simp; omega) (fun g hg => by have := hf8 g hg; simp; omega)
  have hk59 : Kept [p, q] w5 w9 := (hk58.mono (by simp)).trans hk9 (by simp)
  have hr9 := hr5.kept2 hk59 (by simp; omega)
  rw [List.nil_append] at hp9 hq9
  have hv9 := hv.kept hw9 (by simp)
  have hel := enc_length (rnum l false).1
  have hone := one_plain l
  clear hr5 hr6 hr7 hp6 hp7 hp8 hq7 hq8 hk1 hk2 hk3 hk4 hk5 hk6 hk7 hk8 hk9 hk35 hk58 hk59 hn8 hn9 hf8 hi3 hi5 hfr2 hfx4 hrp hxp hpp hqq hpl hql hrl s1 s2 s3 s4 s5 s6 s7 s8 hr3l hw2 hw3 hw4 hw5 hw6 hw7 hw8 hnlt hun hv
  have HO : Hid ((!(rnum l false).2.2 && (rnum l false).2.1.isEmpty) = true → enc (rnum l false).1 = l) := hone
  clear hone
  generalize (rnum l false).1 = n at *
  generalize (rnum l false).2.1 = l' at *
  generalize (rnum l false).2.2 = b' at *
  by_cases hE : (!b' && l'.isEmpty) = true
  · have hn := HO.out hE
    rw [hn] at hp9 hq9
    have hs0 := string_of (P := Try.prog) 24 5 Try.underlying24 9 Try.underlying5 Try.underlying9 _ _ w9.drew hv9.drew
    clear HO hel
    go_wp2_with fail
    go_region_with (first
      | (go_at_call 21; refine (end_any r vr3 l' b' _ hr9.drew).mono ?_; rintro e w10 ⟨rfl, rfl⟩; rw [hE])
      | (go_at_call_of 26 (Value.pointer (some (Addr.mk p 0 none))); refine (wbytes_any p v8 l _ hp9.drew (by omega)).mono ?_; rintro e w10 ⟨v10, rfl, hown10, hk10, hf10⟩; have hs1 := string_of (P := Try.prog) 24 5 Try.underlying24 9 Try.underlying5 Try.underlying9 _ _ w10 hown10.reads; have hq10 := hq9.drew.kept hk10 (by simp) (by simp); have hs2 := string_of (P := Try.prog) 24 5 Try.underlying24 9 Try.underlying5 Try.underlying9 _ _ w10 (hv9.drew.kept hk10 (by simp)))
      | (go_at_call 26; refine (wbytes_any q v9 l _ hq10 (by omega)).mono ?_; rintro e w11 ⟨v11, rfl, hown11, hk11, hf11⟩; have hs3 := string_of (P := Try.prog) 24 5 Try.underlying24 9 Try.underlying5 Try.underlying9 _ _ w11 hown11.reads; have hs4 := string_of (P := Try.prog) 24 5 Try.underlying24 9 Try.underlying5 Try.underlying9 _ _ w11 ((hv9.drew.kept hk10 (by simp)).kept hk11 (by simp))))
    all_goals
      have hfin : Kept [] w w11 := (hw9.drew.trans hk10 (by simp)).trans hk11 (by simp)
      clear hs0 hs1 hs2 hs3 hs4 hown10 hown11 hk10 hk11 hf10 hf11 hp9 hq9 hq10 hv9 hw9 hr9
      go_wp2
      go_ret
      exact ⟨rfl, hfin⟩
  · have hE' : (!b' && l'.isEmpty) = false := by simpa using hE
    clear HO hel
    go_wp2_with fail
    have hend : ∀ k, Calls Try.prog 21 #[.pointer (some ⟨r, 0, none⟩)] (w9.drewN k) fun e w' => e = .returned (.bool false) ∧ w' = w9.drewN k := fun k =>
      (end_any r vr3 l' b' _ (hr9.drewN k)).mono fun e w' ⟨he, hw⟩ => ⟨by rw [he, hE'], hw.symm⟩
    go_quiet ((go_at_call 21; exact Calls.quiet_of_same (hend _)))
    go_wp2
    go_ret
    exact ⟨rfl, ⟨hw9.os, hw9.tape, hw9.output, hw9.size, hw9.block⟩⟩

end Go.Proofs.Ytkhgdeklgcafpaa
