import Derived.Test.YtgpbhlfdlkemjaaGreatQ23
import Derived.Test.YtgpbhlfdlkemjaaGreatQ26
import Derived.Test.YtgpbhlfdlkemjaaGreatQ27
/-
  layer.node: the walks.
-/
namespace Go.Proofs.YtgpbhlfdlkemjaaGreat
open Go.RowKit
set_option linter.unusedVariables false

/-- So many of a node's kids are laid. -/
def AtK {α : Type} (g : Prop) (w0 : World) (T Z : Nat → Prop) (κ : Nat → UInt8) (lb p q fr ct : Nat) (C : Nat → Prop) (w : World) (ρ : Rho) (names : List Nat) (s : St) (L : List Ent) (fl : List Nat) (l : List α) (ad : α → Nat) (need : α → Prop) (cost : α → Nat) (j : Nat) (wr : World) : Prop :=
  ∃ ρ' names' s' L' fl', Lay g w0 T Z κ lb p q fr ct wr ρ' names' s' L' fl' ∧ Went T Z C ((l.take j).map cost).sum w ρ names s L fl wr ρ' names' s' L' fl' ∧ s'.down = false ∧ ∀ x ∈ l.take j, need x → (ρ' (ad x)).1 ≠ 0
section
variable {α : Type} {g : Prop} {w0 : World} {T Z C : Nat → Prop} {κ : Nat → UInt8} {lb p q fr ct : Nat} {w wr w1 w2 : World} {ρ ρ1 : Rho} {names names1 : List Nat} {s s1 : St} {L L1 : List Ent} {fl fl1 : List Nat} {l : List α} {ad : α → Nat} {need : α → Prop} {cost : α → Nat} {j : Nat} {x : α}
theorem AtK.start (h : Lay g w0 T Z κ lb p q fr ct w ρ names s L fl) (hd : s.down = false) : AtK g w0 T Z κ lb p q fr ct C w ρ names s L fl l ad need cost 0 w :=
  ⟨ρ, names, s, L, fl, h, Went.refl, hd, by simp⟩
theorem AtK.skip (hL : Lay g w0 T Z κ lb p q fr ct wr ρ1 names1 s1 L1 fl1) (hW : Went T Z C ((l.take j).map cost).sum w ρ names s L fl wr ρ1 names1 s1 L1 fl1) (hd : s1.down = false) (hp : ∀ x ∈ l.take j, need x → (ρ1 (ad x)).1 ≠ 0) (hx : l[j]? = some x) (hn : need x → (ρ1 (ad x)).1 ≠ 0) (k : Kept [] wr w1) : AtK g w0 T Z κ lb p q fr ct C w ρ names s L fl l ad need cost (j + 1) w1 := by
  refine ⟨ρ1, names1, s1, L1, fl1, hL.kept k, ?_, hd, ?_⟩
  · rw [tsum_succ cost l j x hx]
    exact hW.trans hd (Went.same k)
  · rw [tsnoc hx]
    intro y hy hny
    rcases List.mem_append.1 hy with hy | hy
    · exact hp y hy hny
    · simp at hy
      subst hy
      exact hn hny
theorem AtK.next {c : Nat} (hW : Went T Z C ((l.take j).map cost).sum w ρ names s L fl wr ρ1 names1 s1 L1 fl1) (hd : s1.down = false) (hp : ∀ x ∈ l.take j, need x → (ρ1 (ad x)).1 ≠ 0) (hx : l[j]? = some x) (hc : c ≤ cost x) (k : Kept [] wr w1) {C' : Nat → Prop} (hC : ∀ b, C' b → C b) {ρ2 : Rho} {names2 : List Nat} {s2 : St} {L2 : List Ent} {fl2 : List Nat} (hL2 : Lay g w0 T Z κ lb p q fr ct w2 ρ2 names2 s2 L2 fl2) (hW2 : Went T Z C' c w1 ρ1 names1 s1 L1 fl1 w2 ρ2 names2 s2 L2 fl2) (hd2 : s2.down = false) (hp2 : (ρ2 (ad x)).1 ≠ 0) : AtK g w0 T Z κ lb p q fr ct C w ρ names s L fl l ad need cost (j + 1) w2 := by
  refine ⟨ρ2, names2, s2, L2, fl2, hL2, ?_, hd2, ?_⟩
  · rw [tsum_succ cost l j x hx]
    refine hW.trans hd ?_
    have := (Went.same (B := 0) (C := C) (T := T) (Z := Z) (ρ := ρ1) (names := names1) (s := s1) (L := L1) (fl := fl1) k).trans hd ((hW2.wide hC).more hc)
    rwa [Nat.zero_add] at this
  · rw [tsnoc hx]
    intro y hy hny
    rcases List.mem_append.1 hy with hy | hy
    · exact hW2.ext.put (hp y hy hny)
    · simp at hy
      subst hy
      exact hp2
theorem AtK.lost {c D : Nat} {P : Rho → Prop} (hW : Went T Z C ((l.take j).map cost).sum w ρ names s L fl wr ρ1 names1 s1 L1 fl1) (hd : s1.down = false) (hx : l[j]? = some x) (hc : c ≤ cost x) (hD : (l.map cost).sum ≤ D) (k : Kept [] wr w1) {C' C2 : Nat → Prop} (hC : ∀ b, C' b → C2 b) (hCC : ∀ b, C b → C2 b) {ρ2 : Rho} {names2 : List Nat} {s2 : St} {L2 : List Ent} {fl2 : List Nat} (hL2 : Lay g w0 T Z κ lb p q fr ct w2 ρ2 names2 s2 L2 fl2) (hW2 : Went T Z C' c w1 ρ1 names1 s1 L1 fl1 w2 ρ2 names2 s2 L2 fl2) (hd2 : s2.down = true) : Laying g w0 T Z κ lb p q fr ct C2 D w ρ names s L fl P 9 w2 := by
  refine ⟨ρ2, names2, s2, L2, fl2, hL2, ?_, .inr ⟨rfl, hd2⟩⟩
  have h1 := (Went.same (B := 0) (C := C2) (T := T) (Z := Z) (ρ := ρ1) (names := names1) (s := s1) (L := L1) (fl := fl1) k).trans hd ((hW2.wide hC).more hc)
  rw [Nat.zero_add] at h1
  refine ((hW.wide hCC).trans hd h1).more ?_
  rw [← tsum_succ cost l j x hx]
  exact Nat.le_trans (tsum_le cost l (j + 1)) hD
end
section
variable {g : Prop} {w0 : World} {T Z : Nat → Prop} {κ : Nat → UInt8} {lb p q fr ct : Nat}
set_option maxRecDepth 100000 in
set_option maxHeartbeats 4000000 in
theorem node_lf {w : World} {ρ : Rho} {names : List Nat} {s : St} {L : List Ent} {fl : List Nat} (h : Lay g w0 T Z κ lb p q fr ct w ρ names s L fl) {n : Tr 0} (hN : IsN w T ρ n) (hl : n.2.length ≤ 100000) (hsz : Hid (Sized n.2)) (hR : Room (bl ρ n) names s fl) (h0 : (ρ n.1).1 = 0) (kd : UInt8)
    (HT : Hid (∀ w' ρ' names' s' L' fl', Lay g w0 T Z κ lb p q fr ct w' ρ' names' s' L' fl' → IsN w' T ρ' n → Kids ρ' n → (ρ' n.1).1 = 0 → Room 1 names' s' fl' → Calls Tryz.prog 129 #[Pp n.1, .int .u8 (kd.toNat : Int)] w' fun e w1 => ∃ v, e = .returned v ∧ Calls Tryz.prog 127 #[Pp lb, Pp n.1, v] w1 fun e w'' => ∃ er : Int, e = .returned (.int .i64 er) ∧ Laying g w0 T Z κ lb p q fr ct (fun b => b = n.1) 1 w' ρ' names' s' L' fl' (fun ρ'' => (ρ'' n.1).1 ≠ 0) er w'')) :
    Calls Tryz.prog 84 #[Pp lb, Pp n.1, .int .u8 (kd.toNat : Int)] w fun e w' => ∃ er : Int, e = .returned (.int .i64 er) ∧ Laying g w0 T Z κ lb p q fr ct (fun b => b ∈ blks n) (bl ρ n) w ρ names s L fl (fun ρ' => (ρ' n.1).1 ≠ 0) er w' := by
  obtain ⟨aI, cI, aU, cU, c0, c1, -, c3, c4, r3, r4, hFi, -⟩ := hN.isB.raw
  rw [show adr n = n.1 from rfl] at c0 c1 c3 c4
  have hbl : Hid (bl ρ n = (n.2.map (ib ρ)).sum + 1) := Hid.mk (by show (if (ρ n.1).1 = 0 then _ else _) = _; rw [if_pos h0, Nat.add_comm])
  rw [show (ua n).length = 0 from rfl] at c4
  have huu : (ia n).length = n.2.length := by show (n.2.map Itm.ad).length = _; rw [List.length_map]
  have hua : Hid (ia n = n.2.map Itm.ad) := Hid.mk rfl
  rw [huu] at c3 r3 hFi
  rw [hua.out] at r3 hFi
  have HN0 := Hid.mk hN
  have HR := Hid.mk hR
  have H0 := Hid.mk h0
  have HRW := Hid.mk (And.intro r3 hFi)
  have HST : Hid (AtK g w0 T Z κ lb p q fr ct (fun b => b ∈ n.2.map Itm.ad) w ρ names s L fl n.2 Itm.ad (fun i => lng i = true) (ib ρ) 0 w) := Hid.mk (AtK.start h hR.up)
  obtain ⟨N, HN⟩ : ∃ N, Hid (n.2.length = N) := ⟨_, rfl⟩
  rw [HN.out] at hl c3 HRW
  obtain ⟨A, HA⟩ : ∃ A, Hid (n.1 = A) := ⟨_, rfl⟩
  rw [HA.out] at c3 c4 ⊢
  clear hN c0 c1 r3 r4 hFi huu hua h hR h0
  go_enter Tryz.func84, Tryz.ntmps84
  go_wp2_with fail
  go_loopw [18] (fun i w' => i = .int .i64 0 ∧ w = w') (fun _ _ => 0)
  case atStart => exact ⟨rfl, rfl⟩
  case round =>
    obtain ⟨rfl, rfl⟩ := hrel
    go_wp2_with fail
    go_loopw [39] (fun i wr => ∃ j : Nat, i = .int .i64 (j : Int) ∧ j ≤ N ∧ Hid (AtK g w0 T Z κ lb p q fr ct (fun b => b ∈ n.2.map Itm.ad) w ρ names s L fl n.2 Itm.ad (fun i => lng i = true) (ib ρ) j wr)) (fun i _ => N - (intOf i).toNat)
    case atStart => exact ⟨0, rfl, by omega, HST⟩
    case round =>
      obtain ⟨j, rfl, hj, hA⟩ := hrel
      obtain ⟨ρ1, names1, s1, L1, fl1, hL1, hW1, hd1, hp1⟩ := hA.out
      have HL1 := Hid.mk hL1
      have HW1 := Hid.mk hW1
      have HD1 := Hid.mk hd1
      have HP1 := Hid.mk hp1
      have hN1 := hW1.trees HN0.out
      clear hL1 hW1 hd1 hp1 hA c3 c4
      by_cases hlt : j < N
      · obtain ⟨x, hx⟩ : ∃ x, n.2[j]? = some x := ⟨_, List.getElem?_eq_getElem (by have := HN.out; omega)⟩
        have HU := Hid.mk hx
        have hm := List.mem_of_getElem? hx
        obtain ⟨b, o, c', e, hcell⟩ := (HW1.out.rows HRW.out.1 HRW.out.2).at j x.ad (by rw [List.getElem?_map, hx]; rfl)
        rw [List.length_map, HN.out] at e
        injection e with e eN e2
        subst e e2
        clear eN hx
        have hIx := hN1.2 x hm
        have hkl := (hsz.out x hm).2.1
        have hvl := (hsz.out x hm).2.2
        obtain ⟨aV, cV, d0, d1, -, -, -⟩ := hIx.cells
        have hput := fun W => isPut_any (ρ1 x.ad).1 (ρ1 x.ad).2 W
        by_cases hr : (ρ1 x.ad).1 = 0
        · have hd : decide ((ρ1 x.ad).1 ≠ 0) = false := by simpa using hr
          rw [hd] at hput
          have HLG : Hid (∀ w1, Kept [] wr w1 → Calls Tryz.prog 83 #[Pp x.ad] w1 fun e w' => e = .returned (.bool (lng x)) ∧ ∃ q, w' = w1.drewN q) := Hid.mk fun w1 k1 => item_isLong (hIx.kept k1 (by simp)) (by omega) (by omega)
          cases hlg : lng x with
          | false =>
            rw [hlg] at HLG
            have HS : Hid (∀ w1, Kept [] wr w1 → AtK g w0 T Z κ lb p q fr ct (fun b => b ∈ n.2.map Itm.ad) w ρ names s L fl n.2 Itm.ad (fun i => lng i = true) (ib ρ) (j + 1) w1) := Hid.mk fun w1 k1 => AtK.skip HL1.out HW1.out HD1.out HP1.out HU.out (fun h => by rw [hlg] at h; cases h) k1
            clear hN1 hIx hm hr hd HU HL1 HW1 HD1 HP1 hlg hkl hvl
            generalize x.ad = U at *
            generalize (ρ1 U).1 = r1 at *
            generalize (ρ1 U).2 = r2 at *
            go_wp2_with fail
            refine (hput _).mono ?_
            rintro e w1 ⟨rfl, k1⟩
            have hlong := HLG.out w1 k1
            clear hput HLG d0 d1 hcell
            go_wp2_with fail
            refine hlong.mono ?_
            rintro e w2 ⟨rfl, qq, rfl⟩
            have HS1 := Hid.mk (HS.out _ (k1.drewN qq))
            clear hlong HS k1
            go_wp2
            go_roundw
            case rel => exact ⟨j + 1, by go_num, by omega, HS1⟩
            case measure => simp [intOf]; omega
          | true =>
            rw [hlg] at HLG
            have HC : Hid (∀ w1, Kept [] wr w1 → Calls Tryz.prog 128 #[Pp x.ad] w1 fun e w2 => ∃ v, e = .returned v ∧ Calls Tryz.prog 127 #[Pp lb, Pp x.ad, v] w2 fun e w'' => ∃ er : Int, e = .returned (.int .i64 er) ∧ ((er = 0 ∧ AtK g w0 T Z κ lb p q fr ct (fun b => b ∈ n.2.map Itm.ad) w ρ names s L fl n.2 Itm.ad (fun i => lng i = true) (ib ρ) (j + 1) w'') ∨ (er = 9 ∧ Laying g w0 T Z κ lb p q fr ct (fun b => b ∈ blks n) (bl ρ n) w ρ names s L fl (fun ρ' => (ρ' A).1 ≠ 0) 9 w''))) := Hid.mk fun w1 k1 => by
              have hroom : Room (ib ρ1 x) names1 s1 fl1 := by
                have h1 := tsum_succ (ib ρ) n.2 j x HU.out
                have h2 := tsum_le (ib ρ) n.2 (j + 1)
                have h3 := (HR.out.less (B := ((n.2.take j).map (ib ρ)).sum + ib ρ x) (by rw [hbl.out]; omega)).next HW1.out HD1.out
                exact h3.less (ib_ext HW1.out.ext x)
              refine (item_laid (HL1.out.kept k1) (hIx.kept k1 (by simp)) hkl hvl hlg hr hroom).mono ?_
              rintro e w2 ⟨v, rfl, h2⟩
              refine ⟨v, rfl, h2.mono ?_⟩
              rintro e w3 ⟨er, rfl, ρ2, names2, s2, L2, fl2, hL2, hW2, (⟨rfl, hd2, hp2⟩ | ⟨rfl, hd2⟩)⟩
              · exact ⟨0, rfl, .inl ⟨rfl, AtK.next HW1.out HD1.out HP1.out HU.out (ib_ext HW1.out.ext x) k1 (fun b hb => by rw [hb]; exact List.mem_map_of_mem hm) hL2 hW2 hd2 hp2⟩⟩
              · exact ⟨9, rfl, .inr ⟨rfl, AtK.lost HW1.out HD1.out HU.out (ib_ext HW1.out.ext x) (by rw [hbl.out]; omega) k1 (fun b hb => by rw [hb]; exact List.mem_cons_of_mem _ (List.mem_map_of_mem hm)) (fun b hb => List.mem_cons_of_mem _ hb) hL2 hW2 hd2⟩⟩
            clear hN1 hIx hm hr hd HU HL1 HW1 HD1 HP1 hlg hkl hvl
            generalize x.ad = U at *
            generalize (ρ1 U).1 = r1 at *
            generalize (ρ1 U).2 = r2 at *
            go_wp2_with fail
            refine (hput _).mono ?_
            rintro e w1 ⟨rfl, k1⟩
            have hlong := HLG.out w1 k1
            clear hput HLG d0 d1 hcell
            go_wp2_with fail
            refine hlong.mono ?_
            rintro e w2 ⟨rfl, qq, rfl⟩
            have hcall := HC.out _ ((k1.drewN qq).drew)
            clear hlong HC k1
            go_wp2_with fail
            go_region_held3 (fun _ => True) (exact trivial) (first | (go_at_call 128; refine hcall.mono ?_; rintro e w5 ⟨v5, rfl, h5⟩) | (go_at_call 127; refine h5.mono ?_; rintro e w6 ⟨er, rfl, hQ⟩))
            all_goals
              have HQ := Hid.mk hQ
              clear hcall h5 hQ
              rcases HQ.out with ⟨rfl, hA2⟩ | ⟨rfl, hF⟩
              · have HA2 := Hid.mk hA2
                clear HQ hA2
                go_wp2
                go_roundw
                case rel => exact ⟨j + 1, by go_num, by omega, HA2⟩
                case measure => simp [intOf]; omega
              · have HF := Hid.mk hF
                clear HQ hF
                go_wp2
                go_ret
                exact ⟨9, rfl, HF.out⟩
        · have hd : decide ((ρ1 x.ad).1 ≠ 0) = true := by simpa using hr
          rw [hd] at hput
          have HS : Hid (∀ w1, Kept [] wr w1 → AtK g w0 T Z κ lb p q fr ct (fun b => b ∈ n.2.map Itm.ad) w ρ names s L fl n.2 Itm.ad (fun i => lng i = true) (ib ρ) (j + 1) w1) := Hid.mk fun w1 k1 => AtK.skip HL1.out HW1.out HD1.out HP1.out HU.out (fun _ => hr) k1
          clear hN1 hIx hm hr hd HU HL1 HW1 HD1 HP1 hkl hvl
          generalize x.ad = U at *
          generalize (ρ1 U).1 = r1 at *
          generalize (ρ1 U).2 = r2 at *
          go_wp2_with fail
          refine (hput _).mono ?_
          rintro e w1 ⟨rfl, k1⟩
          have HS1 := Hid.mk (HS.out w1 k1)
          clear hput HS d0 d1 hcell k1
          go_wp2
          go_roundw
          case rel => exact ⟨j + 1, by go_num, by omega, HS1⟩
          case measure => simp [intOf]; omega
      · obtain rfl : j = N := by omega
        have hput0 : Hid ((ρ1 A).1 = 0) := Hid.mk (by
          rw [← HA.out, HW1.out.only n.1 (fun hb => by obtain ⟨i, hi, e⟩ := List.mem_map.1 hb; exact HN0.out.noItem (HN0.out.2 i hi) e.symm)]
          exact H0.out)
        have HC : Hid (∀ w1, Kept [] wr w1 → Calls Tryz.prog 129 #[Pp A, .int .u8 (kd.toNat : Int)] w1 fun e w2 => ∃ v, e = .returned v ∧ Calls Tryz.prog 127 #[Pp lb, Pp A, v] w2 fun e w'' => ∃ er : Int, e = .returned (.int .i64 er) ∧ Laying g w0 T Z κ lb p q fr ct (fun b => b ∈ blks n) (bl ρ n) w ρ names s L fl (fun ρ' => (ρ' A).1 ≠ 0) er w'') := Hid.mk fun w1 k1 => by
          have hte : n.2.take j = n.2 := List.take_of_length_le (by have := HN.out; omega)
          have hW1 := HW1.out
          have hp1 := HP1.out
          rw [hte] at hW1 hp1
          have hroom : Room 1 names1 s1 fl1 := (HR.out.less (B := (n.2.map (ib ρ)).sum + 1) (by rw [hbl.out]; omega)).next hW1 HD1.out
          have hT := HT.out w1 ρ1 names1 s1 L1 fl1 (HL1.out.kept k1) (hN1.kept k1 (by simp)) (fun i hi hlg => hp1 i hi hlg) (by rw [HA.out]; exact hput0.out) hroom
          rw [HA.out] at hT
          refine hT.mono ?_
          rintro e w2 ⟨v, rfl, h2⟩
          refine ⟨v, rfl, h2.mono ?_⟩
          rintro e w3 ⟨er, rfl, ρ3, names3, s3, L3, fl3, hL3, hW3, h3⟩
          refine ⟨er, rfl, ρ3, names3, s3, L3, fl3, hL3, ?_, h3⟩
          have h4 := (Went.same (B := 0) (C := fun b => b ∈ blks n) (T := T) (Z := Z) (ρ := ρ1) (names := names1) (s := s1) (L := L1) (fl := fl1) k1).trans HD1.out (hW3.wide (C' := fun b => b ∈ blks n) (fun b hb => by rw [hb, ← HA.out]; exact blks_self n))
          rw [Nat.zero_add] at h4
          have h5 := (hW1.wide (C' := fun b => b ∈ blks n) (fun b hb => List.mem_cons_of_mem _ hb)).trans HD1.out h4
          rw [hbl.out]
          exact h5
        have hcall := HC.out wr.drew ((Kept.refl [] wr).drew)
        clear HL1 HW1 HD1 HP1 hN1 hput0 HC
        go_wp2_with fail
        go_region_held3 (fun _ => True) (exact trivial) (first | (go_at_call 129; refine hcall.mono ?_; rintro e w5 ⟨v5, rfl, h5⟩) | (go_at_call 127; refine h5.mono ?_; rintro e w6 ⟨er, rfl, hQ⟩))
        all_goals
          have HQ := Hid.mk hQ
          clear hcall h5 hQ
          go_wp2
          go_ret
          exact ⟨er, rfl, HQ.out⟩
end
end Go.Proofs.YtgpbhlfdlkemjaaGreat
/-
  layer.node, of a branch and of any node.
-/
namespace Go.Proofs.YtgpbhlfdlkemjaaGreat
open Go.RowKit
set_option linter.unusedVariables false

section
variable {g : Prop} {w0 : World} {T Z : Nat → Prop} {κ : Nat → UInt8} {lb p q fr ct : Nat}
set_option maxRecDepth 100000 in
set_option maxHeartbeats 4000000 in
theorem node_br {w : World} {ρ : Rho} {names : List Nat} {s : St} {L : List Ent} {fl : List Nat} (h : Lay g w0 T Z κ lb p q fr ct w ρ names s L fl) {k : Nat} {n : Tr (k + 1)} (hN : IsN w T ρ n) (hl : n.2.length ≤ 100000) (hR : Room (bl ρ n) names s fl) (h0 : (ρ n.1).1 = 0) (kd : UInt8)
    (HK : Hid (∀ u ∈ n.2, ∀ w' ρ' names' s' L' fl', Lay g w0 T Z κ lb p q fr ct w' ρ' names' s' L' fl' → IsN w' T ρ' u → (ρ' (adr u)).1 = 0 → Room (bl ρ' u) names' s' fl' → Calls Tryz.prog 84 #[Pp lb, Pp (adr u), .int .u8 3] w' fun e w'' => ∃ er : Int, e = .returned (.int .i64 er) ∧ Laying g w0 T Z κ lb p q fr ct (fun b => b ∈ blks u) (bl ρ' u) w' ρ' names' s' L' fl' (fun ρ'' => (ρ'' (adr u)).1 ≠ 0) er w''))
    (HT : Hid (∀ w' ρ' names' s' L' fl', Lay g w0 T Z κ lb p q fr ct w' ρ' names' s' L' fl' → IsN w' T ρ' n → Kids ρ' n → (ρ' n.1).1 = 0 → Room 1 names' s' fl' → Calls Tryz.prog 129 #[Pp n.1, .int .u8 (kd.toNat : Int)] w' fun e w1 => ∃ v, e = .returned v ∧ Calls Tryz.prog 127 #[Pp lb, Pp n.1, v] w1 fun e w'' => ∃ er : Int, e = .returned (.int .i64 er) ∧ Laying g w0 T Z κ lb p q fr ct (fun b => b = n.1) 1 w' ρ' names' s' L' fl' (fun ρ'' => (ρ'' n.1).1 ≠ 0) er w'')) :
    Calls Tryz.prog 84 #[Pp lb, Pp n.1, .int .u8 (kd.toNat : Int)] w fun e w' => ∃ er : Int, e = .returned (.int .i64 er) ∧ Laying g w0 T Z κ lb p q fr ct (fun b => b ∈ blks n) (bl ρ n) w ρ names s L fl (fun ρ' => (ρ' n.1).1 ≠ 0) er w' := by
  obtain ⟨aI, cI, aU, cU, c0, c1, -, c3, c4, r3, r4, -, hFu⟩ := hN.isB.raw
  rw [show adr n = n.1 from rfl] at c0 c1 c3 c4
  have hbl : Hid (bl ρ n = (n.2.map (bl ρ)).sum + 1) := Hid.mk (by show (if (ρ n.1).1 = 0 then _ else _) = _; rw [if_pos h0, Nat.add_comm])
  have huu : (ua n).length = n.2.length := by show (n.2.map adr).length = _; rw [List.length_map]
  have hua : Hid (ua n = n.2.map adr) := Hid.mk rfl
  rw [huu] at c4 r4 hFu
  rw [hua.out] at r4 hFu
  have HN0 := Hid.mk hN
  have HR := Hid.mk hR
  have H0 := Hid.mk h0
  have HRW := Hid.mk (And.intro r4 hFu)
  have HST : Hid (AtK g w0 T Z κ lb p q fr ct (fun b => ∃ u ∈ n.2, b ∈ blks u) w ρ names s L fl n.2 adr (fun _ => True) (bl ρ) 0 w) := Hid.mk (AtK.start h hR.up)
  obtain ⟨N, HN⟩ : ∃ N, Hid (n.2.length = N) := ⟨_, rfl⟩
  rw [HN.out] at hl c4 HRW
  obtain ⟨A, HA⟩ : ∃ A, Hid (n.1 = A) := ⟨_, rfl⟩
  rw [HA.out] at c4 ⊢
  clear hN c0 c1 c3 r3 r4 hFu huu hua h hR h0
  go_enter Tryz.func84, Tryz.ntmps84
  go_wp2_with fail
  go_loopw [18] (fun i wr => ∃ j : Nat, i = .int .i64 (j : Int) ∧ j ≤ N ∧ Hid (AtK g w0 T Z κ lb p q fr ct (fun b => ∃ u ∈ n.2, b ∈ blks u) w ρ names s L fl n.2 adr (fun _ => True) (bl ρ) j wr)) (fun i _ => N - (intOf i).toNat)
  case atStart => exact ⟨0, rfl, by omega, HST⟩
  case round =>
    obtain ⟨j, rfl, hj, hA⟩ := hrel
    obtain ⟨ρ1, names1, s1, L1, fl1, hL1, hW1, hd1, hp1⟩ := hA.out
    have HL1 := Hid.mk hL1
    have HW1 := Hid.mk hW1
    have HD1 := Hid.mk hd1
    have HP1 := Hid.mk hp1
    have hN1 := hW1.trees HN0.out
    clear hL1 hW1 hd1 hp1 hA c4
    by_cases hlt : j < N
    · obtain ⟨u, hu⟩ : ∃ u, n.2[j]? = some u := ⟨_, List.getElem?_eq_getElem (by have := HN.out; omega)⟩
      have HU := Hid.mk hu
      have hm := List.mem_of_getElem? hu
      obtain ⟨b, o, c', e, hcell⟩ := (HW1.out.rows HRW.out.1 HRW.out.2).at j (adr u) (by rw [List.getElem?_map, hu]; rfl)
      rw [List.length_map, HN.out] at e
      injection e with e eN e2
      subst e e2
      clear eN hu
      have hNu := hN1.2 u hm
      obtain ⟨d0, d1⟩ := hNu.ref
      have hput := fun W => isPut_any (ρ1 (adr u)).1 (ρ1 (adr u)).2 W
      by_cases hr : (ρ1 (adr u)).1 = 0
      · have hd : decide ((ρ1 (adr u)).1 ≠ 0) = false := by simpa using hr
        rw [hd] at hput
        have HC : Hid (∀ w1, Kept [] wr w1 → Calls Tryz.prog 84 #[Pp lb, Pp (adr u), .int .u8 3] w1 fun e w'' => ∃ er : Int, e = .returned (.int .i64 er) ∧ ((er = 0 ∧ AtK g w0 T Z κ lb p q fr ct (fun b => ∃ u ∈ n.2, b ∈ blks u) w ρ names s L fl n.2 adr (fun _ => True) (bl ρ) (j + 1) w'') ∨ (er = 9 ∧ Laying g w0 T Z κ lb p q fr ct (fun b => b ∈ blks n) (bl ρ n) w ρ names s L fl (fun ρ' => (ρ' A).1 ≠ 0) 9 w''))) := Hid.mk fun w1 k1 => by
          have hroom : Room (bl ρ1 u) names1 s1 fl1 := by
            have h1 := tsum_succ (bl ρ) n.2 j u HU.out
            have h2 := tsum_le (bl ρ) n.2 (j + 1)
            have h3 := (HR.out.less (B := ((n.2.take j).map (bl ρ)).sum + bl ρ u) (by rw [hbl.out]; omega)).next HW1.out HD1.out
            exact h3.less (bl_ext HW1.out.ext u)
          refine (HK.out u hm w1 ρ1 names1 s1 L1 fl1 (HL1.out.kept k1) (hNu.kept k1 (by simp)) hr hroom).mono ?_
          rintro e w2 ⟨er, rfl, ρ2, names2, s2, L2, fl2, hL2, hW2, (⟨rfl, hd2, hp2⟩ | ⟨rfl, hd2⟩)⟩
          · exact ⟨0, rfl, .inl ⟨rfl, AtK.next HW1.out HD1.out HP1.out HU.out (bl_ext HW1.out.ext u) k1 (fun b hb => ⟨u, hm, hb⟩) hL2 hW2 hd2 hp2⟩⟩
          · exact ⟨9, rfl, .inr ⟨rfl, AtK.lost HW1.out HD1.out HU.out (bl_ext HW1.out.ext u) (by rw [hbl.out]; omega) k1 (fun b hb => List.mem_cons_of_mem _ (List.mem_flatMap.2 ⟨u, hm, hb⟩)) (fun b hb => by obtain ⟨v, hv, hb⟩ := hb; exact List.mem_cons_of_mem _ (List.mem_flatMap.2 ⟨v, hv, hb⟩)) hL2 hW2 hd2⟩⟩
        clear hN1 hNu hm hr hd HU HL1 HW1 HD1 HP1
        generalize adr u = U at *
        generalize (ρ1 U).1 = r1 at *
        generalize (ρ1 U).2 = r2 at *
        go_wp2_with fail
        refine (hput _).mono ?_
        rintro e w1 ⟨rfl, k1⟩
        have hcall := HC.out w1 k1
        clear hput HC d0 d1 hcell
        go_wp2_with fail
        refine hcall.mono ?_
        rintro e w2 ⟨er, rfl, (⟨rfl, hA2⟩ | ⟨rfl, hF⟩)⟩
        · have HA2 := Hid.mk hA2
          clear hcall hA2
          go_wp2
          go_roundw
          case rel => exact ⟨j + 1, by go_num, by omega, HA2⟩
          case measure => simp [intOf]; omega
        · have HF := Hid.mk hF
          clear hcall hF
          go_wp2
          go_ret
          exact ⟨9, rfl, HF.out⟩
      · have hd : decide ((ρ1 (adr u)).1 ≠ 0) = true := by simpa using hr
        rw [hd] at hput
        have HS : Hid (∀ w1, Kept [] wr w1 → AtK g w0 T Z κ lb p q fr ct (fun b => ∃ u ∈ n.2, b ∈ blks u) w ρ names s L fl n.2 adr (fun _ => True) (bl ρ) (j + 1) w1) := Hid.mk fun w1 k1 => AtK.skip HL1.out HW1.out HD1.out HP1.out HU.out (fun _ => hr) k1
        clear hN1 hNu hm hr hd HU HL1 HW1 HD1 HP1
        generalize adr u = U at *
        generalize (ρ1 U).1 = r1 at *
        generalize (ρ1 U).2 = r2 at *
        go_wp2_with fail
        refine (hput _).mono ?_
        rintro e w1 ⟨rfl, k1⟩
        have HS1 := Hid.mk (HS.out w1 k1)
        clear hput HS d0 d1 hcell k1
        go_wp2
        go_roundw
        case rel => exact ⟨j + 1, by go_num, by omega, HS1⟩
        case measure => simp [intOf]; omega
    · obtain rfl : j = N := by omega
      obtain ⟨aI1, cI1, aU1, cU1, -, -, -, d3, -, -⟩ := hN1.isB.raw
      rw [show adr n = n.1 from rfl, HA.out, show (ia n).length = 0 from rfl] at d3
      have hput0 : Hid ((ρ1 A).1 = 0) := Hid.mk (by
        rw [← HA.out, HW1.out.only n.1 (fun hb => by obtain ⟨u, hu, hb⟩ := hb; exact blks_below HN0.out hu hb)]
        exact H0.out)
      have HC : Hid (∀ w1, Kept [] wr w1 → Calls Tryz.prog 129 #[Pp A, .int .u8 (kd.toNat : Int)] w1 fun e w2 => ∃ v, e = .returned v ∧ Calls Tryz.prog 127 #[Pp lb, Pp A, v] w2 fun e w'' => ∃ er : Int, e = .returned (.int .i64 er) ∧ Laying g w0 T Z κ lb p q fr ct (fun b => b ∈ blks n) (bl ρ n) w ρ names s L fl (fun ρ' => (ρ' A).1 ≠ 0) er w'') := Hid.mk fun w1 k1 => by
        have hte : n.2.take j = n.2 := List.take_of_length_le (by have := HN.out; omega)
        have hW1 := HW1.out
        have hp1 := HP1.out
        rw [hte] at hW1 hp1
        have hroom : Room 1 names1 s1 fl1 := (HR.out.less (B := (n.2.map (bl ρ)).sum + 1) (by rw [hbl.out]; omega)).next hW1 HD1.out
        have hT := HT.out w1 ρ1 names1 s1 L1 fl1 (HL1.out.kept k1) (hN1.kept k1 (by simp)) (fun u hu => hp1 u hu trivial) (by rw [HA.out]; exact hput0.out) hroom
        rw [HA.out] at hT
        refine hT.mono ?_
        rintro e w2 ⟨v, rfl, h2⟩
        refine ⟨v, rfl, h2.mono ?_⟩
        rintro e w3 ⟨er, rfl, ρ3, names3, s3, L3, fl3, hL3, hW3, h3⟩
        refine ⟨er, rfl, ρ3, names3, s3, L3, fl3, hL3, ?_, h3⟩
        have h4 := (Went.same (B := 0) (C := fun b => b ∈ blks n) (T := T) (Z := Z) (ρ := ρ1) (names := names1) (s := s1) (L := L1) (fl := fl1) k1).trans HD1.out (hW3.wide (C' := fun b => b ∈ blks n) (fun b hb => by rw [hb, ← HA.out]; exact blks_self n))
        rw [Nat.zero_add] at h4
        have h5 := (hW1.wide (C' := fun b => b ∈ blks n) (fun b hb => by obtain ⟨v, hv, hb⟩ := hb; exact List.mem_cons_of_mem _ (List.mem_flatMap.2 ⟨v, hv, hb⟩))).trans HD1.out h4
        rw [hbl.out]
        exact h5
      clear HL1 HW1 HD1 HP1 hN1 hput0
      go_wp2_with fail
      go_loopw [39] (fun i w' => i = .int .i64 0 ∧ wr = w') (fun _ _ => 0)
      case atStart => exact ⟨rfl, rfl⟩
      case round =>
        obtain ⟨rfl, rfl⟩ := hrel
        have hcall := HC.out wr.drew ((Kept.refl [] wr).drew)
        clear HC d3
        go_wp2_with fail
        go_region_held3 (fun _ => True) (exact trivial) (first | (go_at_call 129; refine hcall.mono ?_; rintro e w5 ⟨v5, rfl, h5⟩) | (go_at_call 127; refine h5.mono ?_; rintro e w6 ⟨er, rfl, hQ⟩))
        all_goals
          have HQ := Hid.mk hQ
          clear hcall h5 hQ
          go_wp2
          go_ret
          exact ⟨er, rfl, HQ.out⟩
/-- layer.node, whatever the level. -/
theorem lnode_any : {k : Nat} → (n : Tr k) → {w : World} → {ρ : Rho} → {names : List Nat} → {s : St} → {L : List Ent} → {fl : List Nat} → Lay g w0 T Z κ lb p q fr ct w ρ names s L fl → IsN w T ρ n → k ≤ 1000 → Wf n → Sized (its n) → Room (bl ρ n) names s fl → (ρ (adr n)).1 = 0 → (kd : UInt8) → (g → κ (adr n) = kd ∧ Inner κ n) →
    Calls Tryz.prog 84 #[Pp lb, Pp (adr n), .int .u8 (kd.toNat : Int)] w fun e w' => ∃ er : Int, e = .returned (.int .i64 er) ∧ Laying g w0 T Z κ lb p q fr ct (fun b => b ∈ blks n) (bl ρ n) w ρ names s L fl (fun ρ' => (ρ' (adr n)).1 ≠ 0) er w'
  | 0, n, w, ρ, names, s, L, fl, h, hN, hk, hW, hsz, hR, h0, kd, hkd =>
    node_lf h hN (by have h1 := len_le_sum n.2; have h2 : (n.2.map isz).sum ≤ 236 := hW.2; omega) (Hid.mk hsz) hR h0 kd (Hid.mk fun w' ρ' names' s' L' fl' hL hN' hK h0' hR' => node_laid hL hN' (by omega) hW hsz hK kd (fun hg => (hkd hg).1) h0' hR')
  | k + 1, n, w, ρ, names, s, L, fl, h, hN, hk, hW, hsz, hR, h0, kd, hkd =>
    node_br h hN (by have := hW.2.1; omega) hR h0 kd
      (Hid.mk fun u hu w' ρ' names' s' L' fl' hL hN' h0' hR' => lnode_any u hL hN' (by omega) (hW.2.2.1 u hu) (fun i hi => hsz i (List.mem_flatMap.2 ⟨u, hu, hi⟩)) hR' h0' 3 (fun hg => (hkd hg).2 u hu))
      (Hid.mk fun w' ρ' names' s' L' fl' hL hN' hK h0' hR' => node_laid hL hN' (by omega) hW hsz hK kd (fun hg => (hkd hg).1) h0' hR')
end
end Go.Proofs.YtgpbhlfdlkemjaaGreat
/-
  lay: all texts of a tree that aren't put yet, or none.
-/
namespace Go.Proofs.YtgpbhlfdlkemjaaGreat
open Go.RowKit
set_option linter.unusedVariables false

theorem remE_all {L E : List Ent} (h : ((L ++ E).map (·.1)).Nodup) : remE (L ++ E) (E.map (·.1)) = L := by
  rw [List.map_append] at h
  have h3 := (List.nodup_append.1 h).2.2
  unfold remE
  rw [List.filter_append, List.filter_eq_self.2 fun x hx => ?_, List.filter_eq_nil_iff.2 fun x hx => ?_, List.append_nil]
  · simpa using List.mem_map_of_mem (f := (·.1)) hx
  · have : x.1 ∉ E.map (·.1) := fun hm => h3 x.1 (List.mem_map_of_mem hx) x.1 hm rfl
    exact decide_eq_true this
/-- What lay answers. -/
def LayPost (g : Prop) (w0 : World) (T Z : Nat → Prop) (κ : Nat → UInt8) (p q fr ct : Nat) (C : Nat → Prop) (B : Nat) (w : World) (ρ : Rho) (s : St) (L : List Ent) (fl : List Nat) (nb : Nat) (er : Int) (w' : World) : Prop :=
  ∃ ρ' s' L' fl', SyP w0 w' q p s' fr ct L' fl' (fun b => T b ∨ Z b) ∧ RhoOk ρ' ∧ (∀ {k : Nat} {m : Tr k}, IsN w T ρ m → IsN w' T ρ' m) ∧ (∀ {i : Itm}, IsI w T ρ i → IsI w' T ρ' i) ∧ Ext ρ ρ' ∧ (∀ b, ¬ C b → ρ' b = ρ b) ∧ KP Z w w' ∧ s'.nb = s.nb ∧ s'.ws.length ≤ s.ws.length + B ∧ (s.fuse < 0 → s'.fuse = s.fuse ∧ s'.down = s.down) ∧
    ((er = 0 ∧ s'.down = false ∧ (ρ' nb).1 ≠ 0 ∧ (g → GI w' T κ ρ' L') ∧ ∃ (E : List Ent) (m : Nat) (vs : List Wr), L' = L ++ E ∧ fl' = fl.drop m ∧ m ≤ B ∧ s'.ws = s.ws ++ vs ∧ ∀ x ∈ vs, x.1 ∈ fl) ∨ (er = 9 ∧ s'.down = true ∧ L' = L))
/-- What stands while names are dropped. -/
def Dropping (w0 : World) (p q fr ct lb : Nat) (X : Nat → Prop) (w2 : World) (s : St) (L : List Ent) (names : List Nat) (j : Nat) (wr : World) : Prop := KP X w2 wr ∧ ∃ fl', SyP w0 wr q p s fr ct (remE L (names.take j)) fl' X
section
variable {g : Prop} {w0 : World} {T Z : Nat → Prop} {κ : Nat → UInt8} {p q fr ct : Nat}
set_option maxRecDepth 100000 in
set_option maxHeartbeats 2000000 in
theorem tlay_walk {w : World} {nb : Nat} {R : Int → World → Prop} {W : World} (hW : Hid (W = w.alloc (.cells #[Pp p, .slice none 0 0] 152)))
    (HC : Calls Tryz.prog 84 #[Pp w.heap.size, Pp nb, .int .u8 2] W fun e w2 => ∃ er : Int, e = .returned (.int .i64 er) ∧ ((er = 0 ∧ R 0 w2) ∨ (er = 9 ∧ ∃ (X : Nat → Prop) (s : St) (L : List Ent) (names : List Nat) (vn : Value), w2.heap[w.heap.size]? = some (.cells #[Pp p, vn] 152 (0, 0)) ∧ OwnsI w2 vn names ∧ X w.heap.size ∧ (∀ x, vn.ownBlock = some x → X x) ∧ (∀ x, X x → x < w2.heap.size) ∧ names.length ≤ 900000 ∧ (∀ y ∈ names, y ≤ 1000000) ∧ (L.map (·.1)).Nodup ∧ Dropping w0 p q fr ct w.heap.size X w2 s L names 0 w2 ∧ ∀ wr, Dropping w0 p q fr ct w.heap.size X w2 s L names names.length wr → R 9 wr))) :
    Calls Tryz.prog 50 #[Pp p, Pp nb] w fun e w' => ∃ er : Int, e = .returned (.int .i64 er) ∧ R er w' := by
  have HW := hW
  go_enter Tryz.func50, Tryz.ntmps50
  go_wp2_with fail
  rw [hW.out] at HC
  refine HC.mono ?_
  rintro e w2 ⟨er, rfl, (⟨rfl, hR⟩ | ⟨rfl, X, s, L, names, vn, hb, ho, hxl, hxn, hlow, hnl, hnb, hnd, hD, hend⟩)⟩
  · have HR := Hid.mk hR
    clear HC hR hW HW
    go_wp2
    go_ret
    exact ⟨0, rfl, HR.out⟩
  · obtain ⟨aO, cO, e, hcap, hcm⟩ := ho.form
    have HO : Hid (OwnsI w2 vn names) := Hid.mk ho
    have HB := Hid.mk hb
    have c1 : w2.cell? ⟨w.heap.size, 1, none⟩ = some vn := by simp only [World.cell?, hb]; rfl
    subst e
    obtain ⟨N, HN⟩ : ∃ N, Hid (names.length = N) := ⟨_, rfl⟩
    rw [HN.out] at c1 HO hxn hcap hnl hend
    have HK : Hid (∀ W, KP X w2 W → OwnsI W (.slice aO N cO) names) := Hid.mk fun W kW => by
      obtain ⟨S, k, hS⟩ := kW
      exact HO.out.kept k (fun x hx => hS x (hxn x hx))
    have hnm := Hid.mk hnd
    have HD0 := Hid.mk hD
    have HE := Hid.mk hend
    have HL := Hid.mk hlow
    have HNB := Hid.mk hnb
    clear hb ho HB HO HC hW HW hD hend hnd hlow hnb hxn hxl
    generalize w.heap.size = lb at *
    go_wp2_with fail
    go_loopw [20] (fun i wr => ∃ j : Nat, i = .int .i64 (j : Int) ∧ j ≤ N ∧ Hid (Dropping w0 p q fr ct lb X w2 s L names j wr)) (fun i _ => N - (intOf i).toNat)
    case atStart => exact ⟨0, rfl, by omega, HD0⟩
    case round =>
      obtain ⟨j, rfl, hj, hd⟩ := hrel
      clear c1
      by_cases hlt : j < N
      · obtain ⟨y, hy⟩ : ∃ y, names[j]? = some y := ⟨_, List.getElem?_eq_getElem (by have := HN.out; omega)⟩
        obtain ⟨b, c', e, hcell⟩ := (HK.out wr hd.out.1).at j y hy
        injection e with e eN e2
        subst e e2
        clear eN
        have hts := tsnoc hy
        have hyb := HNB.out y (List.mem_of_getElem? hy)
        have hdr : Calls Tryz.prog 54 #[.pointer (some ⟨p, 0, none⟩), .int .i64 (y : Int)] wr fun e w' => ∃ z : Int, e = .returned (.int .i64 z) ∧ Dropping w0 p q fr ct lb X w2 s L names (j + 1) w' := by
          obtain ⟨hkp, fl', hs'⟩ := hd.out
          by_cases hm : y ∈ (remE L (names.take j)).map (·.1)
          · have hyn : y ∉ names.take j := by
              obtain ⟨x, hx, e⟩ := List.mem_map.1 hm
              have := (List.mem_filter.1 hx).2
              rw [← e]
              simpa using this
            have hm2 : y ∈ L.map (·.1) := by
              obtain ⟨x, hx, e⟩ := List.mem_map.1 hm
              exact List.mem_map.2 ⟨x, (List.mem_filter.1 hx).1, e⟩
            obtain ⟨A, x, B, hx1, hx2, hx3⟩ := remE_step hnm.out hyn hm2
            rw [hx2] at hs'
            have hdr := psy_drop hs' (fun z hz => Nat.lt_of_lt_of_le (HL.out z hz) hkp.size)
            rw [hx1] at hdr
            refine hdr.mono ?_
            rintro e w2 ⟨rfl, h1, h2⟩
            exact ⟨0, rfl, hkp.trans h2, _, by rw [hts, hx3]; exact h1⟩
          · refine (psy_drop_none hs' (y : Int) (wf_nat (by omega)) (fun x hx e => hm (List.mem_map.2 ⟨x, hx, by omega⟩))).mono ?_
            rintro e w2 ⟨rfl, rfl⟩
            refine ⟨5, rfl, hkp, fl', ?_⟩
            have : remE L (names.take (j + 1)) = remE L (names.take j) := by
              rw [hts]
              unfold remE
              refine List.filter_congr fun z hz => ?_
              by_cases h1 : z.1 ∈ names.take j
              · simp [h1]
              · have : z.1 ≠ y := fun e => hm (List.mem_map.2 ⟨z, List.mem_filter.2 ⟨hz, by simpa using h1⟩, e⟩)
                simp [h1, this]
            rw [this]
            exact hs'
        clear hy hyb hts hd
        go_wp2_with fail
        refine hdr.mono ?_
        rintro e w3 ⟨z, rfl, h1⟩
        have HS := Hid.mk h1
        clear hdr h1
        go_wp2
        go_roundw
        case rel => exact ⟨j + 1, by go_num, by omega, HS⟩
        case measure => simp [intOf]; omega
      · obtain rfl : j = N := by omega
        have HF := Hid.mk (HE.out wr hd.out)
        clear hd
        go_wp2
        go_ret
        exact ⟨9, rfl, HF.out⟩
/-- lay. -/
theorem tlay_any {w : World} {ρ : Rho} {s : St} {L : List Ent} {fl : List Nat} (hsy : SyP w0 w q p s fr ct L fl (fun b => T b ∨ Z b)) (hlt : ∀ x, T x ∨ Z x → x < w.heap.size) (hge : ∀ x, T x ∨ Z x → w0.heap.size ≤ x) (htz : ∀ x, T x → ¬ Z x) (hok : RhoOk ρ) (hgi : g → GI w T κ ρ L) (hfr : 1 ≤ fr) {k : Nat} {n : Tr k} (hN : IsN w T ρ n) (hk : k ≤ 1000) (hW : Wf n) (hsz : Sized (its n)) (hB : bl ρ n ≤ fl.length) (hws : s.ws.length + bl ρ n ≤ 90000) (hB2 : bl ρ n ≤ 900000) (hd : s.down = false) (h0 : (ρ (adr n)).1 = 0) (hkd : g → κ (adr n) = 2 ∧ Inner κ n) :
    Calls Tryz.prog 50 #[Pp p, Pp (adr n)] w fun e w' => ∃ er : Int, e = .returned (.int .i64 er) ∧ LayPost g w0 T Z κ p q fr ct (fun b => b ∈ blks n) (bl ρ n) w ρ s L fl (adr n) er w' := by
  obtain ⟨W, hWd⟩ : ∃ W, Hid (W = w.alloc (.cells #[Pp p, .slice none 0 0] 152)) := ⟨_, rfl⟩
  have kW : Kept [] w W := by
    rw [hWd.out]
    exact (Kept.refl [] w).alloc _
  have hbW : W.heap[w.heap.size]? = some (.cells #[Pp p, .slice none 0 0] 152 (0, 0)) := by
    rw [hWd.out]
    exact heap_alloc_new w _
  have hK0 := hsy.k.size
  have hLy : Lay g w0 T Z κ w.heap.size p q fr ct W ρ [] s L fl := by
    refine ⟨⟨.slice none 0 0, fun b => (b = w.heap.size) ∨ (T b ∨ Z b), ⟨hbW, OwnsI.nil _, by simp [Value.ownBlock], hsy.more kW (fun y hy => by omega), fun x hx => ?_, .inl rfl, by simp [Value.ownBlock], fun x hx _ => .inr hx, fun hm => by have := hlt _ hm; omega, by simp [Value.ownBlock], hK0, by simp [Value.ownBlock]⟩⟩, fun x hx => Nat.lt_of_lt_of_le (hlt x hx) kW.size, hge, htz, hok, fun hg => (hgi hg).kept kW, hfr⟩
    rcases hx with rfl | hx
    · exact lt_of_block hbW
    · exact Nat.lt_of_lt_of_le (hlt x hx) kW.size
  refine tlay_walk (w0 := w0) (q := q) (fr := fr) (ct := ct) hWd ((lnode_any n hLy (hN.kept kW (by simp)) hk hW hsz ⟨hB, hws, by simpa using hB2, hd⟩ h0 2 hkd).mono ?_)
  rintro e w2 ⟨er, rfl, ρ2, names2, s2, L2, fl2, hL2, hW2, h2⟩
  refine ⟨er, rfl, ?_⟩
  have hW3 := (Went.same (B := 0) (C := fun b => b ∈ blks n) (T := T) (Z := Z) (ρ := ρ) (names := []) (s := s) (L := L) (fl := fl) kW).trans hd hW2
  rw [Nat.zero_add] at hW3
  obtain ⟨vn, X, hl2⟩ := hL2.ly
  have hwr := hW3.writes
  obtain ⟨t1, t2, t3, t4, t5, t6, E, m, vs, e1, e2, e3, e4, e5, e6, e7, e8, e9, e10⟩ := hW3
  rcases h2 with ⟨rfl, hd2, hp2⟩ | ⟨rfl, hd2⟩
  · refine .inl ⟨rfl, ρ2, s2, L2, fl2, hl2.sy.less (fun y hy => hl2.xf y hy (hL2.lt y hy)), hL2.ok, t1, t2, t3, t4, t6, e8, hwr, e10, .inl ⟨rfl, hd2, hp2, hL2.gi, E, m, vs, e1, e3, e4, e6, e9 hd2⟩⟩
  · have hnod := hl2.sy.ok.names
    have hnm : ∀ y ∈ names2, y ≤ 1000000 := fun y hy => by
      rw [e2] at hy
      simp at hy
      obtain ⟨bs, l, hx⟩ := hy
      have h1 := hl2.sy.ok.self (x := (y, bs, l)) (by rw [e1]; exact List.mem_append_right _ hx)
      have h3 := hl2.sy.ok.mem (List.mem_append_left _ (mem_bls.2 ⟨(y, bs, l), by rw [e1]; exact List.mem_append_right _ hx, h1⟩))
      have := hl2.sy.ok.area
      have := hl2.sy.ok.nb
      have h4 : (y, bs, l).1 = y := rfl
      omega
    refine .inr ⟨rfl, X, s2, L2, names2, vn, hl2.box, hl2.own, hl2.xl, hl2.xn, hl2.low, ?_, hnm, hnod, ⟨KP.refl X w2, fl2, by rw [List.take_zero, remE_nil]; exact hl2.sy⟩, fun wr hdr => ?_⟩
    · rw [e2]
      simp
      omega
    · obtain ⟨hkp, fl', hs'⟩ := hdr
      rw [List.take_length, e2, List.nil_append, e1, remE_all (by rw [← e1]; exact hnod)] at hs'
      obtain ⟨S, k, hS⟩ := id hkp
      have hST : ∀ x ∈ S, ¬ T x := fun x hx hT => hS x (hl2.xf x (.inl hT) (hL2.lt x (.inl hT))) hx
      refine ⟨ρ2, s2, L, fl', hs'.less (fun y hy => hl2.xf y hy (hL2.lt y hy)), hL2.ok, fun h => (t1 h).kept k hST, fun h => (t2 h).kept k hST, t3, t4, t6.trans ⟨S, k, fun x hx hm => hS x (hl2.xf x (.inr hx) (hL2.lt x (.inr hx))) hm⟩, e8, hwr, e10, .inr ⟨rfl, hd2, rfl⟩⟩
set_option maxRecDepth 100000 in
set_option maxHeartbeats 1000000 in
theorem tlay_nil (p : Nat) (w : World) : Calls Tryz.prog 50 #[Pp p, .pointer none] w fun e w' => e = .returned (.int .i64 0) ∧ w = w' := by
  go_enter Tryz.func50, Tryz.ntmps50
  go_wp2
  go_ret
  exact ⟨rfl, rfl⟩
end
end Go.Proofs.YtgpbhlfdlkemjaaGreat
/-
  Rows of changes: as they are asked for, cloned.
-/
namespace Go.Proofs.YtgpbhlfdlkemjaaGreat
open Go.RowKit
set_option linter.unusedVariables false

/-- A change, and where its value lies. -/
structure Cq where
  c : Cg
  ad : Option Addr
  cap : Nat
instance : Inhabited Cq := ⟨⟨⟨[], [], false⟩, none, 0⟩⟩
/-- The value of a change. -/
abbrev Cq.sl (x : Cq) : Value := .slice x.ad x.c.val.length x.cap
def encQ (x : Cq) : List Value := [Sv x.c.key, x.sl, .bool x.c.gone]
def CQ (l : List Cq) : List (List Value) := l.map encQ
theorem CQ_length (l : List Cq) : (CQ l).length = l.length := by simp [CQ]
theorem CQ_append (a b : List Cq) : CQ (a ++ b) = CQ a ++ CQ b := by simp [CQ]
theorem encQ_one (x : Cq) : ∀ v ∈ encQ x, v.oneCell' = true := fun v hv => by
  simp [encQ] at hv
  rcases hv with rfl | rfl | rfl <;> rfl
theorem CQ_wide (l : List Cq) : Wide 3 (CQ l) := fun r hr => by
  obtain ⟨x, _, rfl⟩ := List.mem_map.1 hr
  exact ⟨rfl, encQ_one x⟩
/-- The slice v reads as these changes. -/
def RowQ (w : World) (v : Value) (l : List Cq) : Prop := ReadsR 3 w v (CQ l)
/-- Their values lie there. -/
def ValsQ (w : World) (l : List Cq) : Prop := ∀ x ∈ l, Reads w x.sl x.c.val
theorem RowQ.kept {S : List Nat} {w w' : World} {v : Value} {l : List Cq} (h : RowQ w v l) (k : Kept S w w') (hn : ∀ g, v.ownBlock = some g → g ∉ S) : RowQ w' v l := ReadsR.kept h k hn
theorem ValsQ.kept {S : List Nat} {w w' : World} {l : List Cq} (h : ValsQ w l) (k : Kept S w w') (hn : ∀ x ∈ l, ∀ g, x.sl.ownBlock = some g → g ∉ S) : ValsQ w' l := fun x hx => (h x hx).kept k (hn x hx)
theorem RowQ.form {w : World} {v : Value} {l : List Cq} (h : RowQ w v l) : ∃ a c, v = .slice a l.length c ∧ l.length ≤ c ∧ c ≤ 9223372036854775807 := by
  have := ReadsR.form h
  rwa [CQ_length] at this
theorem RowQ.at {w : World} {a : Option Addr} {n c : Nat} {l : List Cq} (h : RowQ w (.slice a n c) l) {j : Nat} {x : Cq} (hx : l[j]? = some x) : ∃ b o, a = some ⟨b, o, none⟩ ∧ w.cell? ⟨b, o + j * 3, none⟩ = some (Sv x.c.key) ∧ w.cell? ⟨b, o + j * 3 + 1, none⟩ = some (.slice x.ad x.c.val.length x.cap) ∧ w.cell? ⟨b, o + j * 3 + 2, none⟩ = some (.bool x.c.gone) := by
  obtain ⟨b, o, c', e, hc⟩ := ReadsR.at h j (encQ x) (by simp [CQ, hx])
  injection e with e _ _
  have h0 := hc 0 _ rfl
  have h1 := hc 1 _ rfl
  have h2 := hc 2 _ rfl
  rw [Nat.add_zero] at h0
  exact ⟨b, o, e, h0, h1, h2⟩
theorem rt40 : RowT 40 61 3 48 (.agg #[.string ⟨#[]⟩, .slice none 0 0, .bool false]) := ⟨Tryz.underlying40, by kernel_rfl, rfl, by omega, by omega⟩
section
variable {w : World}
set_option maxRecDepth 100000 in
set_option maxHeartbeats 1000000 in
/-- slices.Clone. -/
theorem cloneQ {v : Value} {l : List Cq} (hr : RowQ w v l) (hl : l.length ≤ 900000) : Calls Tryz.prog 42 #[v] w fun e w' => ∃ v', e = .returned v' ∧ OwnsR 61 3 w' v' (CQ l) ∧ Kept [] w w' ∧ Fresh w v' := by
  obtain ⟨a, c, rfl, h1, h2⟩ := hr.form
  cases a with
  | none =>
    have h0 : l = [] := by
      obtain ⟨a', c', e, _, _, h4, _⟩ := id hr
      cases l with
      | nil => rfl
      | cons x r =>
        obtain ⟨b, o, e, _⟩ := RowQ.at hr (j := 0) (x := x) rfl
        cases e
    subst h0
    have hq := fun w : World => Lib.run_eql_slice_nil (P := Tryz.prog) w 40 61 none 0 c 0 0 Tryz.underlying40
    go_enter Tryz.func42, Tryz.ntmps42
    go_wp2
    go_ret
    exact ⟨_, rfl, OwnsR.nil _ _ _, Kept.refl [] w, fun g hg => by simp [Value.ownBlock] at hg⟩
  | some a =>
    have hq := fun w : World => Lib.run_eql_slice_nil (P := Tryz.prog) w 40 61 (some a) l.length c 0 0 Tryz.underlying40
    have hmade : OwnsR 61 3 (w.alloc (.cells #[] 61)) (.slice (some ⟨w.heap.size, 0, none⟩) 0 0) [] := World.ownsRow_made (base := 0) (e := 61) (size := 3) w #[] 0 (Nat.zero_le _) (by simp) (by simp)
    have hr1 := hr.kept (kept_alloc w (.cells #[] 61)) (by simp)
    obtain ⟨ad, c2, w2, hrun, ho2, hg2, hN2⟩ := run_appendR rt40 (w.alloc (.cells #[] 61)) 40 _ [] hmade _ (CQ l) (CQ_wide l) hr1 (by rw [CQ_length]; show 0 + l.length ≤ 1000000; omega)
    simp only [List.length_nil, Nat.zero_add, List.nil_append] at hrun ho2 hN2
    have HF : Hid (∃ v', (Value.slice ad (CQ l).length c2) = v' ∧ OwnsR 61 3 w2 v' (CQ l) ∧ Kept [] w w2 ∧ Fresh w v') := Hid.mk (by
      refine ⟨_, rfl, ho2, ((Kept.refl [] w).alloc _).grown hg2 (fun k hk => .inr (by simp [Value.ownBlock] at hk; omega)), fun g hg => ?_⟩
      rcases hN2 g hg with h | h
      · simp [Value.ownBlock] at h; omega
      · simp at h; omega)
    clear hmade hr1 ho2 hg2 hN2 hr
    go_enter Tryz.func42, Tryz.ntmps42
    go_wp2_with (at_builtin; refine wpList_append_run 40 _ _ rfl rfl _ _ rfl rfl _ _ hrun ?_)
    go_ret
    obtain ⟨v', rfl, h⟩ := HF.out
    exact ⟨_, rfl, h⟩
end
end Go.Proofs.YtgpbhlfdlkemjaaGreat
