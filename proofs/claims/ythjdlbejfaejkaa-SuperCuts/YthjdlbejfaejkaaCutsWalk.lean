/-
  SuperCuts: the walk.
-/
import Derived.Test.YthjdlbejfaejkaaHasA
namespace Go.Proofs.Ythjdlbejfaejkaa
open Go.RowKit
set_option linter.unusedVariables false

set_option maxRecDepth 100000 in
set_option maxHeartbeats 400000 in
theorem cuts_long (a : Option Addr) (n cap : Nat) (w : World) (hn : 40 < n) : Calls Try.prog 4 #[.slice a n cap] w fun e w' => e = .returned (.bool true) ∧ Kept [] w w' := by
  have hn2 : (40 : Int) < (n : Int) := by omega
  go_enter Try.func4, Try.ntmps4
  go_wp2_with fail
  refine (awake_any _).mono ?_
  rintro e w1 ⟨rfl, k1⟩
  go_wp2_with fail
  refine (awake_any _).mono ?_
  rintro e w2 ⟨rfl, k2⟩
  have k := k1.trans k2 (by simp)
  clear k1 k2
  go_wp2_with fail
  go_ret
  exact ⟨rfl, k⟩

/-- The list of what was kept, in the caller's memory. -/
def Keeps (w0 w : World) (q p : Nat) (kv : Value) (saves : List (List UInt8)) : Prop := OwnsT w kv ([] :: saves) ∧ Fresh w0 kv ∧ HasA w0 w q p 3 saves kv.ownBlock.toList
theorem Keeps.form {w0 w : World} {q p : Nat} {kv : Value} {saves : List (List UInt8)} (h : Keeps w0 w q p kv saves) : ∃ a c, kv = .slice a (saves.length + 1) c := by
  obtain ⟨a, c, h⟩ := h.1.form
  exact ⟨a, c, h⟩
theorem keeps_first {w0 w : World} {q p : Nat} (h : Has w0 w q p 3 []) : Keeps w0 (w.alloc (.cells #[.string ⟨#[]⟩] 9)) q p (.slice (some ⟨w.heap.size, 0, none⟩) 1 1) [] := by
  have k0 := (Kept.refl [] w).alloc (.cells #[.string ⟨#[]⟩] 9)
  refine ⟨?_, ?_, h.apart.grow k0 (by simp) (fun x hx => ?_)⟩
  · exact World.ownsRow_lit (base := 0) (e := 9) (size := 1) w #[.string ⟨#[]⟩] 1 (Nat.zero_le _) (by unfold maxLen; omega) (by simp)
  · intro g hg
    simp [Value.ownBlock] at hg
    have := h.k.size
    omega
  · simp [Value.ownBlock] at hx
    subst hx
    exact ⟨by simp, .inr (Nat.le_refl _)⟩
/-- A Save that is kept: the call, and the append behind it. -/
theorem keeps_next {w0 w : World} {q p : Nat} {kv : Value} {saves : List (List UInt8)} (h : Keeps w0 w q p kv saves) (hs : saves.length ≤ 100) (v : Value) (l : List UInt8) (hr : Reads w v l) (hl : l.length ≤ 200) :
    Calls Try.prog 12 #[.pointer (some ⟨p, 0, none⟩), v] w fun e w' => e = .returned (.int .i64 0) ∧ Kept [] w0 w' ∧ ∀ ty, ∃ ad cap w'', (Builtin.append_ #[38, 38] ty #[kv, .slice (some ⟨w'.heap.size, 0, none⟩) 1 1]).run Try.prog (w'.alloc (.cells #[T8 l] 9)) = .ok (.slice ad (saves.length + 1 + 1) cap) w'' ∧ Keeps w0 w'' q p (.slice ad (saves.length + 1 + 1) cap) (saves ++ [l]) := by
  obtain ⟨hO, hf, hA⟩ := h
  refine (save_hasA hA (by omega) (by omega) v l hr hl).mono fun e w' ⟨he, hA', S, kS, hS⟩ => ⟨he, hA'.k, fun ty => ?_⟩
  have hO' := hO.kept kS (fun g hg => hS g (by rw [Option.mem_toList]; exact hg))
  obtain ⟨ad, cap, w'', h1, h2, h3, h4⟩ := append_text w' ty kv ([] :: saves) l hO' (by simp; omega)
  refine ⟨ad, cap, w'', h1, h2, fun g hg => ?_, hA'.grow h3 (fun x hx => hf x (by rw [Option.mem_toList] at hx; exact hx)) (fun x hx => ?_)⟩
  · rcases h4 g hg with h | h
    · exact hf g h
    · exact Nat.le_trans hA'.k.size h
  · rw [Option.mem_toList] at hx
    refine ⟨h2.lt hx, ?_⟩
    rcases h4 x hx with h | h
    · exact .inl (by rw [Option.mem_toList]; exact h)
    · exact .inr h

set_option maxRecDepth 100000 in
set_option maxHeartbeats 1000000 in
theorem cuts_walk (v : Value) (ls : List (List UInt8)) (w : World) (hv : HoldsL w v ls) (hn : ls.length ≤ 40) : Calls Try.prog 4 #[v] w fun e w' => e = .returned (.bool true) ∧ Kept [] w w' := by
  have hn2 : ¬ (40 : Int) < (ls.length : Int) := by omega
  have HV := Hid.mk hv
  obtain ⟨a, cap, rfl, hcap, hmax, -⟩ := hv
  have hmax' : cap ≤ 9223372036854775807 := hmax
  clear hmax
  go_enter Try.func4, Try.ntmps4
  go_wp2_with fail
  refine (awake_any _).mono ?_
  rintro e w1 ⟨rfl, k1⟩
  have hnew : Calls Try.prog 8 #[.int .i64 3] w1 fun e w' => ∃ q, e = .returned (.pointer (some ⟨q, 0, none⟩)) ∧ Dsk w w' q 3 [] := new_dsk 3 (by omega) k1
  go_wp2_with fail
  refine hnew.mono ?_
  rintro e w2 ⟨q, rfl, h2⟩
  have hop := open_dsk h2 (by omega) (by simp)
  clear hnew k1 h2
  go_wp2_with fail
  refine hop.mono ?_
  rintro e w3 ⟨p, rfl, h3, -⟩
  have hK := keeps_first h3
  clear hop h3
  go_wp2_with fail
  generalize w3.alloc (.cells #[.string ⟨#[]⟩] 9) = w4 at hK
  go_loopw [6, 28] (fun kv i wr => ∃ (j : Nat) (saves : List (List UInt8)), j ≤ ls.length ∧ saves.length ≤ j ∧ i = .int .i64 (j : Int) ∧ Keeps w wr q p kv saves) (fun _ i _ => ls.length - (intOf i).toNat)
  case atStart => exact ⟨0, [], Nat.zero_le _, Nat.zero_le _, rfl, hK⟩
  case round =>
    clear hK
    obtain ⟨j, saves, hj, hsj, rfl, hK⟩ := hrel
    obtain ⟨ak, ck, hkv⟩ := hK.form
    subst hkv
    by_cases hlt : j < ls.length
    · have hlt2 : (j : Int) < (ls.length : Int) := by omega
      obtain ⟨l, hl⟩ : ∃ l, ls[j]? = some l := ⟨ls[j], by simp⟩
      obtain ⟨b, o, cap', al, cl, hve, -, -, hcell, hrd⟩ := HV.out.at j l hl
      injection hve with e1 e2 e3
      subst e1 e3
      clear e2
      have HC : Hid (∀ W, Kept [] w W → W.cell? ⟨b, o + j, none⟩ = some (.slice al l.length cl) ∧ Reads W (.slice al l.length cl) l) := fun W k => ⟨by rw [k.cell (World.block_lt_of_cell? _ _ hcell) (by simp)]; exact hcell, hrd.kept k (by simp)⟩
      obtain ⟨hc, hr⟩ := HC.out _ hK.2.2.k
      clear hcell hrd hl
      by_cases h200 : l.length ≤ 200
      · have hsv := keeps_next hK (by omega) _ l hr h200
        clear hK hr
        go_wp2_with fail
        refine hsv.mono ?_
        rintro e w5 ⟨rfl, k5, h5⟩
        obtain ⟨hc5, hr5⟩ := HC.out _ k5
        have hst5 := str34 _ _ w5 hr5
        have h5' := Hid.mk h5
        clear hsv hr5 h5
        go_wp2_with (at_builtin; obtain ⟨ad, cp, w6, hrun, hK6⟩ := h5'.out _; refine wpList_append_run 38 _ _ rfl rfl _ _ rfl rfl _ _ hrun ?_; have hK6' := Hid.mk hK6; clear hK6)
        exact ⟨⟨j + 1, saves ++ [l], by omega, by simp; omega, by go_num, hK6'.out⟩, by simp [intOf]; omega⟩
      · have hsv := long_has (p := p) _ l hr (by omega)
        have hK' := Hid.mk hK
        clear hK hr
        go_wp2_with fail
        refine hsv.mono ?_
        rintro e w' ⟨rfl, rfl⟩
        clear hsv
        go_wp2_with fail
        exact ⟨⟨j + 1, saves, by omega, by omega, by go_num, hK'.out⟩, by simp [intOf]; omega⟩
    · have hlt2 : ¬ (j : Int) < (ls.length : Int) := by omega
      have hT := Hid.mk hK.1.reads
      have hD := Hid.mk hK.2.2.has.dsk
      have K0 : Kept [] wr wr := Kept.refl [] wr
      obtain ⟨ak', ck', hkv, hck, hcm, -, -⟩ := id hT.out
      injection hkv with e1 e2 e3
      subst e1 e3
      have hck' : saves.length + 1 ≤ ck := hck
      have hcm' : ck ≤ 9223372036854775807 := hcm
      clear hck hcm e2 hK
      have hslen : saves.length ≤ 40 := by omega
      go_wp2_with fail
      go_loopw [49] (fun i wx => ∃ n : Nat, n ≤ saves.length + 1 ∧ i = .int .i64 (n : Int) ∧ Kept [] wr wx) (fun i _ => saves.length + 1 - (intOf i).toNat)
      case atStart => exact ⟨0, Nat.zero_le _, rfl, K0⟩
      case round =>
        clear K0
        obtain ⟨n, hns, rfl, Kx⟩ := hrel
        by_cases hlt3 : n < saves.length + 1
        · have hlt4 : (n : Int) < (saves.length : Int) + 1 := by omega
          have hct := cut_dsk (hD.out.keep Kx) n (by omega) (by omega)
          have hkx := kept_at saves n (by omega)
          have hT' := hT.out.kept Kx (by simp)
          obtain ⟨ak2, ck2, hkv, -, -, -, hcells⟩ := hT'
          injection hkv with e1 e2 e3
          subst e1 e3
          obtain ⟨bk, ok, rfl, hcl⟩ := hcells (by simp)
          have hcn := hcl n _ hkx
          unfold T8 at hcn
          clear hcells hcl hkx e2
          go_wp2_with fail
          refine hct.mono ?_
          rintro e w7 ⟨q7, rfl, h7, k7⟩
          have hop := open_dsk h7 (by omega) (by simp; omega)
          have kk7 := Kx.trans k7 (by simp)
          clear hct h7
          go_wp2_with fail
          refine hop.mono ?_
          rintro e w8 ⟨p8, rfl, h8, k8⟩
          have kk8 := Hid.mk (kk7.trans k8 (by simp))
          have hc8 : w8.cell? ⟨bk, ok + n, none⟩ = some (.string ⟨(lastS (saves.take n)).toArray⟩) := by rw [(k7.trans k8 (by simp)).cell (World.block_lt_of_cell? _ _ hcn) (by simp)]; exact hcn
          have S0 : w8.drew.cell? ⟨bk, ok + n, none⟩ = some (.string ⟨(lastS (saves.take n)).toArray⟩) := hc8
          have kd : Kept [] w8 w8.drew := (Kept.refl [] w8).drew
          have hg := gen_has (h8.keep kd)
          have eg : (((saves.take n).length : Nat) : Int) = (n : Int) := by simp; omega
          rw [eg] at hg
          have eW : IntKind.u64.wrap (n : Int) = (n : Int) := by rw [show IntKind.u64.wrap (n : Int) = (n : Int) % 18446744073709551616 by simp [IntKind.wrap, IntKind.bits, IntKind.signed]]; omega
          have ht : Calls Try.prog 11 #[.pointer (some ⟨p8, 0, none⟩)] w8.drew fun e w' => ∃ a c m, e = .returned (.slice a m c) ∧ (convert 32 9 (.slice a m c)).run Try.prog w' = .ok (.string ⟨(lastS (saves.take n)).toArray⟩) w' ∧ w'.cell? ⟨bk, ok + n, none⟩ = some (.string ⟨(lastS (saves.take n)).toArray⟩) ∧ Kept [] w8 w' :=
            (text_has (h8.keep kd)).mono fun e w' ⟨a, c, he, hs, k⟩ => ⟨a, c, _, he, hs, by rw [k.cell (World.block_lt_of_cell? _ _ S0) (by simp)]; exact S0, kd.trans k (by simp)⟩
          generalize (⟨(lastS (saves.take n)).toArray⟩ : ByteArray) = T at hcn hc8 S0 ht
          have hnc : (n : Int) < (ck : Int) := by omega
          clear hop k7 kk7 h8 k8 kd eg hcn
          go_wp2_with fail
          go_region_held (fun w' => w'.cell? ⟨bk, ok + n, none⟩ = some (.string T)) (first | exact S0 | exact S1 | assumption) (first | (go_at_call 10; refine hg.mono ?_; rintro e w' ⟨rfl, rfl⟩) | (go_at_call 11; refine ht.mono ?_; rintro e w9 ⟨a9, c9, m9, rfl, hs9, S1, k9⟩))
          all_goals
            have kk9 := Hid.mk (kk8.out.trans k9 (by simp))
            clear kk8 k9 S0 S1 hs9 hg ht hc8
            go_wp2
            go_roundw
            case rel => exact ⟨n + 1, by omega, by go_num, kk9.out⟩
            case measure => simp [intOf]; omega
        · have hlt4 : ¬ (n : Int) < (saves.length : Int) + 1 := by omega
          have hk := Hid.mk (hD.out.k.trans Kx (by simp))
          clear Kx
          go_wp2
          go_ret
          exact ⟨rfl, hk.out⟩

theorem cuts_any (v : Value) (ls : List (List UInt8)) (w : World) (hv : HoldsL w v ls) : Calls Try.prog 4 #[v] w fun e w' => e = .returned (.bool true) ∧ Kept [] w w' := by
  by_cases hn : ls.length ≤ 40
  · exact cuts_walk v ls w hv hn
  · obtain ⟨a, cap, rfl, _⟩ := hv
    exact cuts_long a ls.length cap w (by omega)

end Go.Proofs.Ythjdlbejfaejkaa
