/-
  The document's Whole: lists of numbers that are, together, an area, each once, each rising: it says yes. And the statement's own function names.
-/
import Derived.Test.YtilelklcfgemoaaKp
import Derived.Test.YtilelklcfgemoaaUn
namespace Go.Proofs.Ytilelklcfgemoaa
open Go.RowKit
set_option linter.unusedVariables false

/-- The slice v reads as the lists ls. -/
def ReadsL (w : World) (v : Value) (ls : List (List Nat)) : Prop :=
  ∃ a cap, v = .slice a ls.length cap ∧ ls.length ≤ cap ∧ cap ≤ maxLen ∧ ∀ (j : Nat) (l : List Nat), ls[j]? = some l → ∃ b o u, a = some ⟨b, o, none⟩ ∧ w.cell? ⟨b, o + j, none⟩ = some u ∧ ReadsI w u l
theorem ReadsL.form {w : World} {v : Value} {ls : List (List Nat)} (h : ReadsL w v ls) : ∃ a c, v = .slice a ls.length c ∧ ls.length ≤ c ∧ c ≤ 9223372036854775807 := by
  obtain ⟨a, c, h1, h2, h3, _⟩ := h
  exact ⟨a, c, h1, h2, h3⟩
theorem ReadsL.at {w : World} {v : Value} {ls : List (List Nat)} (h : ReadsL w v ls) (j : Nat) (l : List Nat) (hl : ls[j]? = some l) : ∃ b o c a' c', v = .slice (some ⟨b, o, none⟩) ls.length c ∧ w.cell? ⟨b, o + j, none⟩ = some (.slice a' l.length c') ∧ ReadsI w (.slice a' l.length c') l := by
  obtain ⟨a, cap, rfl, h2, h3, h4⟩ := h
  obtain ⟨b, o, u, rfl, hc, hr⟩ := h4 j l hl
  obtain ⟨a', c', rfl, -⟩ := hr.form
  exact ⟨b, o, cap, a', c', rfl, hc, hr⟩
theorem ReadsL.kept {w w' : World} {v : Value} {ls : List (List Nat)} (h : ReadsL w v ls) (k : Kept [] w w') : ReadsL w' v ls := by
  obtain ⟨a, cap, rfl, h2, h3, h4⟩ := h
  refine ⟨a, cap, rfl, h2, h3, fun j l hl => ?_⟩
  obtain ⟨b, o, u, rfl, hc, hr⟩ := h4 j l hl
  exact ⟨b, o, u, rfl, by rw [k.cell (World.block_lt_of_cell? w _ hc) (by simp)]; exact hc, hr.kept k (by simp)⟩
theorem flat_take_succ {ls : List (List Nat)} {i : Nat} {l : List Nat} (h : ls[i]? = some l) : (ls.take (i + 1)).flatten = (ls.take i).flatten ++ l := by
  rw [List.take_add_one, h, List.flatten_append]
  simp
/-- Of the lists, what lies behind the first k of the list number i. -/
theorem flat_part {ls : List (List Nat)} {i : Nat} {l : List Nat} (h : ls[i]? = some l) (k : Nat) (hk : k ≤ l.length) : ∃ r, ls.flatten = (ls.take i).flatten ++ l.take k ++ r := by
  refine ⟨l.drop k ++ (ls.drop (i + 1)).flatten, ?_⟩
  have e : ls.flatten = (ls.take (i + 1)).flatten ++ (ls.drop (i + 1)).flatten := by rw [← List.flatten_append, List.take_append_drop]
  rw [e, flat_take_succ h]
  simp only [List.append_assoc]
  rw [← List.append_assoc (l.take k), List.take_append_drop]

set_option maxRecDepth 100000 in
set_option maxHeartbeats 1000000 in
theorem whole_any (w : World) (v : Value) (ls : List (List Nat)) (fr ct tt : Nat) (hv : ReadsL w v ls) (hct : ct ≤ 65536) (htt : Hid (tt = fr + ct)) (hb : tt ≤ 65536) (hp : ls.flatten.Perm (List.range' fr ct)) (hr : ∀ l ∈ ls, l.Pairwise (· < ·)) :
    Calls Try.prog 37 #[.int .i64 (fr : Int), .int .i64 (tt : Int), v] w fun e w' => e = .returned (.bool true) ∧ Kept [] w w' := by
  have hfr : fr ≤ 65536 := by have := htt.out; omega
  have HV := Hid.mk hv
  have HP := Hid.mk hp
  have HRR := Hid.mk hr
  obtain ⟨a, c, rfl, hc1, hc2⟩ := hv.form
  obtain ⟨n, hn⟩ : ∃ n, Hid (ls.length = n) := ⟨_, rfl⟩
  rw [hn.out] at hc1 HV ⊢
  have hmx : max ((tt : Int) - (fr : Int)) 0 = (ct : Int) := by have := htt.out; omega
  have hmk := make_marks ct hct w
  have hM0 : Mk (w.alloc (.cells ((List.range ct).map fun _ => Value.bool false).toArray 4)) w.heap.size ct (fun _ => false) := heap_alloc_new w _
  have kM := (Kept.refl [] w).alloc (.cells ((List.range ct).map fun _ => Value.bool false).toArray 4)
  clear hv hp hr
  go_enter Try.func37, Try.ntmps37
  go_wp2_with fail
  obtain ⟨ub, hub⟩ : ∃ ub, Hid (w.heap.size = ub) := ⟨_, rfl⟩
  rw [hub.out] at hM0 ⊢
  generalize w.alloc (.cells ((List.range ct).map fun _ => Value.bool false).toArray 4) = wm at hM0 kM ⊢
  clear hmk
  go_loopw [8, 19] (fun x i wr => ∃ j : Nat, i = .int .i64 (j : Int) ∧ j ≤ n ∧ x = .int .i64 (((ls.take j).flatten.length : Nat) : Int) ∧ Mk wr ub ct (fun y => (ls.take j).flatten.contains (fr + y)) ∧ Kept [] w wr) (fun _ i _ => n - (numOf i).toNat)
  case atStart => exact ⟨0, rfl, Nat.zero_le _, rfl, hM0.congr (fun j _ => by simp), kM⟩
  case round =>
    clear hM0 kM
    obtain ⟨j, rfl, hj, rfl, hM, hK⟩ := hrel
    by_cases hjn : j < n
    · have hlt : (j : Int) < (n : Int) := by omega
      obtain ⟨l, hl⟩ : ∃ l, ls[j]? = some l := ⟨ls[j]'(by have := hn.out; omega), by simp⟩
      obtain ⟨b, o, c', al, cl, hve, hcl, hrl⟩ := HV.out.at j l hl
      rw [hn.out] at hve
      injection hve with e1 e2 e3
      subst e1 e3
      obtain ⟨al', cl', hf1, hf2, hf3⟩ := hrl.form
      injection hf1 with e1 e2 e3
      subst e1 e3
      obtain ⟨m, hm⟩ : ∃ m, Hid (l.length = m) := ⟨_, rfl⟩
      rw [hm.out] at hcl hf2 hrl
      have HC : Hid (∀ W, Kept [] w W → W.cell? ⟨b, o + j, none⟩ = some (.slice al m cl)) := fun W k => by rw [k.cell (World.block_lt_of_cell? w _ hcl) (by simp)]; exact hcl
      have HL : Hid (∀ W, Kept [] w W → ReadsI W (.slice al m cl) l) := fun W k => hrl.kept k (by simp)
      have hcl' := HC.out _ hK
      obtain ⟨N, hN⟩ : ∃ N, Hid ((ls.take j).flatten.length = N) := ⟨_, rfl⟩
      rw [hN.out]
      have hNle : N + m ≤ 65536 := by
        obtain ⟨r, hr⟩ := flat_part hl m (by rw [hm.out]; exact Nat.le_refl _)
        have h1 := HP.out.length_eq
        have h2 := hm.out
        have h3 := hN.out
        rw [hr, List.length_append, List.length_append, List.length_take, List.length_range'] at h1
        omega
      have hM0 := hM.congr (g := fun y => ((ls.take j).flatten ++ l.take 0).contains (fr + y)) (fun y _ => by simp)
      have hf3' : cl ≤ 9223372036854775807 := hf3
      clear hrl hM e2 hf3 hcl
      go_wp2_with fail
      clear hcl'
      go_loopw [8, 27] (fun x i wr2 => ∃ k : Nat, i = .int .i64 (k : Int) ∧ k ≤ m ∧ x = .int .i64 ((N + k : Nat) : Int) ∧ Mk wr2 ub ct (fun y => ((ls.take j).flatten ++ l.take k).contains (fr + y)) ∧ Kept [] w wr2) (fun _ i _ => m - (numOf i).toNat)
      case atStart => exact ⟨0, rfl, Nat.zero_le _, rfl, hM0, hK⟩
      case round =>
        clear hM0 hK
        obtain ⟨k, rfl, hk, rfl, hM, hK⟩ := hrel
        by_cases hkm : k < m
        · have hlt2 : (k : Int) < (m : Int) := by omega
          obtain ⟨x, hx⟩ : ∃ x, l[k]? = some x := ⟨l[k]'(by have := hm.out; omega), by simp⟩
          have hcl := HC.out _ hK
          obtain ⟨g2, o2, c2, hve, hcx⟩ := (HL.out _ hK).at k x hx
          rw [hm.out] at hve
          injection hve with e1 e2 e3
          subst e1 e3
          have hmem : x ∈ l := List.mem_of_getElem? hx
          have hxin : fr ≤ x ∧ x < fr + ct := by
            have := HP.out.mem_iff.1 (List.mem_flatten.2 ⟨l, List.mem_of_getElem? hl, hmem⟩)
            rw [List.mem_range'_1] at this
            exact this
          have htk : l.take (k + 1) = l.take k ++ [x] := by rw [List.take_add_one, hx]; rfl
          have hnot : x ∉ (ls.take j).flatten ++ l.take k := by
            obtain ⟨r, hr⟩ := flat_part hl (k + 1) (by have := hm.out; omega)
            have hnd := HP.out.nodup_iff.2 List.nodup_range'
            rw [hr, htk, ← List.append_assoc] at hnd
            have h1 := (List.nodup_append.1 hnd).1
            intro hm
            exact (List.nodup_append.1 h1).2.2 x hm x (by simp) rfl
          obtain ⟨e, he⟩ : ∃ e : Nat, x = fr + e := ⟨x - fr, by omega⟩
          have hei : (x : Int) - (fr : Int) = (e : Int) := by omega
          have hec : e < ct := by omega
          have hei2 : (e : Int) < (ct : Int) := by omega
          have hce := hM.cell e hec
          have hff : (((ls.take j).flatten ++ l.take k).contains (fr + e)) = false := by rw [← he]; simpa using hnot
          rw [hff] at hce
          have hfe := hM.free e
          obtain ⟨hMs, ks⟩ := hM.set e
          have hMs2 := hMs.congr (g := fun y => ((ls.take j).flatten ++ l.take (k + 1)).contains (fr + y)) (fun y _ => by
            rw [htk, ← List.append_assoc]
            simp only [List.contains_eq_mem, List.mem_append, List.mem_singleton, Bool.decide_or]
            rw [he]
            congr 1
            rw [Bool.eq_iff_iff]
            simp)
          have hK2 := hK.setCell (p := ⟨ub, e, none⟩) (.inr (Nat.le_of_eq hub.out)) (.bool true)
          have Hf := Hid.mk (And.intro hMs2 hK2)
          have t1 : ¬ (x : Int) < (fr : Int) := by omega
          have t2 : ¬ (tt : Int) ≤ (x : Int) := by have := htt.out; omega
          have he' := Hid.mk he
          cases k with
          | zero =>
            clear hMs hMs2 ks hK2 hM hK hnot htk hx hff hmem he
            rw [Nat.add_zero] at hcx
            go_wp2
            go_roundw
            case rel => exact ⟨1, by go_num, by omega, by go_num, Hf.out⟩
            case measure => simp [numOf]; omega
          | succ k =>
            obtain ⟨y, hy⟩ : ∃ y, l[k]? = some y := ⟨l[k]'(by have := hm.out; omega), by simp⟩
            obtain ⟨g3, o3, c3, hve, hcy⟩ := (HL.out _ hK).at k y hy
            rw [hm.out] at hve
            injection hve with e1 e2 e3
            injection e1 with e1
            injection e1 with e1 e4 _
            subst e1 e4
            have hyx : y < x := by
              have hpw := HRR.out l (List.mem_of_getElem? hl)
              obtain ⟨h1, h2⟩ := List.getElem?_eq_some_iff.1 hy
              obtain ⟨h3, h4⟩ := List.getElem?_eq_some_iff.1 hx
              have := List.pairwise_iff_getElem.1 hpw k (k + 1) h1 h3 (by omega)
              rw [h2, h4] at this
              exact this
            have t3 : ¬ (x : Int) ≤ (y : Int) := by omega
            have t4 : ((k + 1 : Nat) : Int) - 1 = (k : Int) := by omega
            have t5 : (0 : Int) < ((k + 1 : Nat) : Int) := by omega
            have t6 : (k : Int) < (m : Int) := by omega
            clear hMs hMs2 ks hK2 hM hK hnot htk hx hff hmem he hy hyx
            go_wp2
            go_roundw
            case rel => exact ⟨k + 1 + 1, by go_num, by omega, by go_num, Hf.out⟩
            case measure => simp [numOf]; omega
        · obtain rfl : k = m := by omega
          have hni : ¬ (k : Int) < (k : Int) := by omega
          have e5 : (ls.take (j + 1)).flatten = (ls.take j).flatten ++ l.take k := by rw [flat_take_succ hl, List.take_of_length_le (l := l) (by have := hm.out; omega)]
          have e6 : (ls.take (j + 1)).flatten.length = N + k := by rw [e5, List.length_append, hN.out, List.length_take]; have := hm.out; omega
          rw [← e5] at hM
          have Hf := Hid.mk (And.intro hM hK)
          have E6 := Hid.mk e6
          clear hM hK e5 e6
          go_wp2
          go_roundw
          case rel => exact ⟨j + 1, by go_num, by omega, by rw [E6.out], Hf.out⟩
          case measure => simp [numOf]; omega
    · obtain rfl : j = n := by omega
      have hni : ¬ (j : Int) < (j : Int) := by omega
      have e5 : (ls.take j).flatten.length = ct := by
        rw [List.take_of_length_le (by have := hn.out; omega), HP.out.length_eq, List.length_range']
      rw [e5]
      clear hM
      go_wp2
      go_ret
      exact ⟨rfl, hK⟩
set_option maxRecDepth 100000 in
set_option maxHeartbeats 1000000 in
theorem namesL_any (w : World) (v : Value) (l : List Kp) (hv : HoldsK w v l) (hl : l.length ≤ 65536) :
    Calls Try.prog 18 #[v] w fun e w' => ∃ u, e = .returned u ∧ OwnsI w' u (l.map (·.1)) ∧ Kept [] w w' ∧ Fresh w u := by
  have HV := Hid.mk hv
  obtain ⟨a, c, rfl, hc1, hc2⟩ := hv.form
  obtain ⟨n, hn⟩ : ∃ n, Hid (l.length = n) := ⟨_, rfl⟩
  rw [hn.out] at hc1 hl HV ⊢
  clear hv
  go_enter Try.func18, Try.ntmps18
  go_wp2_with fail
  go_loopw [3, 7] (fun u i wr => ∃ j : Nat, i = .int .i64 (j : Int) ∧ j ≤ n ∧ OwnsI wr u ((l.take j).map (·.1)) ∧ Fresh w u ∧ Kept [] w wr) (fun _ i _ => n - (numOf i).toNat)
  case atStart => exact ⟨0, rfl, Nat.zero_le _, OwnsI.nil _, by intro g hg; simp [Value.ownBlock] at hg, Kept.refl _ _⟩
  case round =>
    obtain ⟨j, rfl, hj, hO, hF, hK⟩ := hrel
    have hlen : ((l.take j).map (·.1)).length = j := by rw [List.length_map, List.length_take]; have := hn.out; omega
    obtain ⟨av, cv, rfl, -, -⟩ := hO.form
    rw [hlen] at hO hF ⊢
    by_cases hjn : j < n
    · have hlt : (j : Int) < (n : Int) := by omega
      obtain ⟨x, hx⟩ : ∃ x, l[j]? = some x := ⟨l[j]'(by have := hn.out; omega), by simp⟩
      obtain ⟨b, o, c', hve, d0, d1⟩ := (HV.out.kept hK (by simp)).at j x hx
      rw [hn.out] at hve
      injection hve with e1 e2 e3
      subst e1 e3
      have htk : (l.take (j + 1)).map (·.1) = (l.take j).map (·.1) ++ [x.1] := by rw [List.take_add_one, hx]; simp
      obtain ⟨ad, cd, w5, hrun, hO5, k5, hN5⟩ := append_int hO x.1 (by rw [hlen]; omega)
      rw [hlen] at hrun hO5 hN5
      rw [← htk] at hO5
      have HO5 := Hid.mk hO5
      have hF5 : Hid (Fresh w (.slice ad (j + 1) cd)) := fun g hg => by
        rcases hN5 g hg with h | h
        · exact hF g h
        · exact Nat.le_trans hK.size h
      have K5 : Hid (Kept [] w w5) := hK.trans k5 (fun x hx => .inr (hF x (by simpa using hx)))
      clear hO hF hK hO5 k5 hN5 htk hx hlen
      go_wp2_with (at_builtin; refine wpList_append_run 36 _ _ rfl rfl _ _ rfl rfl _ _ hrun ?_)
      exact ⟨⟨j + 1, by go_num, by omega, HO5.out, hF5.out, K5.out⟩, by simp [numOf]; omega⟩
    · obtain rfl : j = n := by omega
      have hni : ¬ (j : Int) < (j : Int) := by omega
      have htk : (l.take j).map (·.1) = l.map (·.1) := by rw [List.take_of_length_le (by have := hn.out; omega)]
      rw [htk] at hO
      have HO := Hid.mk hO
      have HF := Hid.mk hF
      have HK := Hid.mk hK
      clear hO hF hK hlen htk
      go_wp2
      go_ret
      exact ⟨_, rfl, HO.out, HK.out, HF.out⟩
end Go.Proofs.Ytilelklcfgemoaa
