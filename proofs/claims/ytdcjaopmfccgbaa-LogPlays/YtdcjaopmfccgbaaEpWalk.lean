/-
  LogEpochs answers true.
-/
import Derived.Test.YtdcjaopmfccgbaaSy
namespace Go.Proofs.Ytdcjaopmfccgbaa
open Go.RowKit
set_option linter.unusedVariables false

theorem Sy.turn2 {w0 w w' : World} {q p : Nat} {s : St} {fr ct ep : Nat} {us : List (List UInt8)} {over : Bool} {X Y S : List Nat} (h : Sy w0 w q p s fr ct ep us over X) (k : Kept S w w') (hS : ∀ x ∈ S, x ∈ X) (h0 : ∀ x ∈ S, w0.heap.size ≤ x) (hY : ∀ y ∈ Y, y ∈ X ∨ w.heap.size ≤ y) : Sy w0 w' q p s fr ct ep us over Y := by
  obtain ⟨H, h1, h2, h3⟩ := h
  refine ⟨H, h1.kept k (fun x hx hm => (h3 x hx).2 (hS x hm)), h2.trans k (fun x hx => .inr (h0 x hx)), fun x hx => ⟨(h3 x hx).1, fun hm => ?_⟩⟩
  rcases hY x hm with h | h
  · exact (h3 x hx).2 h
  · have := h1.lt x hx; omega
/-- The power is on, and at most m writes were done. -/
def Calm (s : St) (m : Nat) : Prop := s.down = false ∧ s.fuse = -1 ∧ s.ws.length ≤ m
theorem Calm.next {s : St} {m : Nat} (h : Calm s m) (fr ct ep : Nat) (us : List (List UInt8)) (l : List UInt8) (hl : l.length ≤ 4000) : Calm (nextS s fr ct ep us l) (m + 18) := by
  obtain ⟨h1, h2, h3⟩ := h
  unfold nextS
  split
  · refine ⟨rfl, ?_, ?_⟩
    · show fz s.fuse _ = -1
      unfold fz
      rw [h2, if_pos (by decide)]
    · show (s.ws ++ uws _ _ _ _ _).length ≤ _
      rw [List.length_append, uws_length]
      have : bks l.length ≤ 18 := by unfold bks; omega
      omega
  · exact ⟨h1, h2, by omega⟩
/-- unit and Append, one behind the other. -/
theorem unit_append {w0 w : World} {q p : Nat} {s : St} {fr ct ep m : Nat} {us : List (List UInt8)} {X : List Nat} (h : Sy w0 w q p s fr ct ep us false X) (hc : Calm s m) (hm : m ≤ 30000) (hXl : ∀ x ∈ X, x < w.heap.size) (x : OpL) (hx : x.ok) (a : Option Addr) (c : Nat) (hr : Reads w (.slice a x.b.length c) x.b) :
    Calls Try.prog 11 #[.agg #[.int .i64 x.kind, .int .i64 x.n, .slice a x.b.length c]] w fun e w1 => ∃ a1 c1, e = .returned (.slice a1 (unitL x).length c1) ∧ Kept [] w w1 ∧ w.heap.size ≤ w1.heap.size ∧
      Calls Try.prog 14 #[.pointer (some ⟨p, 0, none⟩), .slice a1 (unitL x).length c1] w1 fun e w2 => e = .returned (.int .i64 (wrongE us ct (unitL x).length)) ∧ Sy w0 w2 q p (nextS s fr ct ep us (unitL x)) fr ct ep (nextU ct us (unitL x)) false X ∧ KX X w w2 ∧ Reads w2 (.slice a1 (unitL x).length c1) (unitL x) := by
  refine (unit_any x hx a c w hr).mono fun e w1 ⟨v1, he, hO, k1, f1⟩ => ?_
  obtain ⟨a1, c1, rfl⟩ := hO.form
  refine ⟨a1, c1, he, k1, k1.size, ?_⟩
  have h1 := h.more k1 (Y := (Value.slice a1 (unitL x).length c1).ownBlock.toList) (fun y hy => f1 y (by rw [Option.mem_toList] at hy; exact hy))
  have hlen := unitL_len x
  have hX : ∀ g, (Value.slice a1 (unitL x).length c1).ownBlock = some g → g ∈ (Value.slice a1 (unitL x).length c1).ownBlock.toList ++ X := fun g hg => by simp [hg]
  refine (sy_append h1 a1 _ c1 (unitL x) hO.reads rfl hX (fun y hy => ?_) (by omega) hc.1 (by have := hc.2.1; omega) (by have := hc.2.2; omega)).mono fun e w2 ⟨he, h2, k2⟩ => ⟨he, h2.less (fun y hy => by simp [hy]), ?_, hO.reads.keptX k2 hX⟩
  · rcases List.mem_append.1 hy with h | h
    · rw [Option.mem_toList] at h; exact hO.lt h
    · have := hXl y h; have := k1.size; omega
  · obtain ⟨S, k, hS⟩ := k2
    refine ⟨S, (k1.mono (by simp)).trans k (fun x hx => .inl hx), fun x hx => hS x (by simp [hx])⟩

set_option maxRecDepth 100000 in
theorem epochs_long (a1 : Option Addr) (n1 c1 : Nat) (a2 : Option Addr) (n2 c2 : Nat) (by_ : Int) (w : World) (h : 20 < n1 ∨ 20 < n2) : Calls Try.prog 5 #[.slice a1 n1 c1, .slice a2 n2 c2, .int .u8 by_] w fun e w' => e = .returned (.bool true) ∧ Kept [] w w' := by
  by_cases h1 : 20 < n1
  · have hn : (20 : Int) < (n1 : Int) := by omega
    go_enter Try.func5, Try.ntmps5
    go_wp2_with fail
    refine (awake_any w).mono ?_
    rintro e w1 ⟨rfl, k1⟩
    go_wp2_with fail
    refine (awake_any w1).mono ?_
    rintro e w2 ⟨rfl, k2⟩
    have hK := k1.trans k2 (by simp)
    clear k1 k2
    go_wp2
    go_ret
    exact ⟨rfl, hK⟩
  · have hn : ¬ (20 : Int) < (n1 : Int) := by omega
    have hn2 : (20 : Int) < (n2 : Int) := by omega
    go_enter Try.func5, Try.ntmps5
    go_wp2_with fail
    refine (awake_any w).mono ?_
    rintro e w1 ⟨rfl, k1⟩
    go_wp2_with fail
    refine (awake_any w1).mono ?_
    rintro e w2 ⟨rfl, k2⟩
    have hK := k1.trans k2 (by simp)
    clear k1 k2
    go_wp2
    go_ret
    exact ⟨rfl, hK⟩

set_option maxRecDepth 100000 in
set_option maxHeartbeats 1000000 in
theorem epochs_walk (v1 v2 : Value) (l1 l2 : List OpL) (n : Nat) (w : World) (hv1 : HoldsO w v1 l1) (hv2 : HoldsO w v2 l2) (hn1 : l1.length ≤ 20) (hn2 : l2.length ≤ 20) (hn : n ≤ 255) : Calls Try.prog 5 #[v1, v2, .int .u8 (n : Int)] w fun e w' => e = .returned (.bool true) ∧ Kept [] w w' := by
  have HV1 := Hid.mk hv1
  have HV2 := Hid.mk hv2
  obtain ⟨a1, c1, rfl, hc1, hm1, -⟩ := hv1
  obtain ⟨a2, c2, rfl, hc2, hm2, -⟩ := hv2
  have hm1' : c1 ≤ 9223372036854775807 := hm1
  have hm2' : c2 ≤ 9223372036854775807 := hm2
  clear hm1 hm2
  have t1 : ¬ (20 : Int) < (l1.length : Int) := by omega
  have t2 : ¬ (20 : Int) < (l2.length : Int) := by omega
  go_enter Try.func5, Try.ntmps5
  go_wp2_with fail
  refine (awake_any w).mono ?_
  rintro e w0 ⟨rfl, k0⟩
  have hnew := sy_new k0 40 0 40 7 (by omega) (by omega) (by omega) (by omega)
  rw [show ((40 : Nat) : Int) = 40 from rfl, show ((0 : Nat) : Int) = 0 from rfl, show ((7 : Nat) : Int) = 7 from rfl] at hnew
  go_wp2_with fail
  refine hnew.mono ?_
  rintro e w1 ⟨q, rfl, hop⟩
  have hop1 := hop w1 (Kept.refl [] w1)
  clear hnew hop
  go_wp2_with fail
  refine hop1.mono ?_
  rintro e w2 ⟨p, rfl, hS, -, -⟩
  have hC : Calm ⟨40, [], -1, false⟩ 0 := ⟨rfl, rfl, by simp⟩
  clear hop1 k0
  go_wp2_with fail
  go_loopw [40] (fun i wr => ∃ (j : Nat) (s : St) (us : List (List UInt8)), i = .int .i64 (j : Int) ∧ j ≤ l1.length ∧ Sy w wr q p s 0 40 7 us false [] ∧ Calm s (18 * j)) (fun i _ => l1.length - (intOf i).toNat)
  case atStart => exact ⟨0, _, [], rfl, Nat.zero_le _, hS, hC⟩
  case round =>
    clear hS hC
    obtain ⟨j, s, us, rfl, hj, hS, hC⟩ := hrel
    by_cases hlt : j < l1.length
    · have hlt2 : (j : Int) < (l1.length : Int) := by omega
      obtain ⟨x, hx⟩ : ∃ x, l1[j]? = some x := ⟨l1[j], by simp⟩
      obtain ⟨b, o, cap', ab, cb, hve, d0, d1, d2, hrx, hxo⟩ := HV1.out.at j x hx hS.k
      injection hve with e1 e2 e3
      subst e1 e3
      clear e2 hx
      have hua := unit_append hS hC (by omega) (by simp) x hxo ab cb (hrx.kept hS.k (by simp))
      have hCn := Hid.mk (hC.next 0 40 7 us (unitL x) (unitL_len x))
      clear hS hC hrx hxo
      go_wp2_with fail
      refine hua.mono ?_
      rintro e w3 ⟨a3, c3, rfl, -, -, hap⟩
      clear hua d0 d1 d2
      go_wp2_with fail
      refine hap.mono ?_
      rintro e w4 ⟨rfl, hS4, -, -⟩
      have HS4 := Hid.mk hS4
      clear hap hS4
      go_wp2
      exact ⟨⟨j + 1, _, _, by go_num, by omega, HS4.out, by rw [Nat.mul_add]; exact hCn.out⟩, by simp [intOf]; omega⟩
    · have hlt2 : ¬ (j : Int) < (l1.length : Int) := by omega
      have hC' : Calm s 360 := ⟨hC.1, hC.2.1, by have := hC.2.2; omega⟩
      have hlat := hS.ar.later (8 + n) (by omega) (by omega)
      have hop := sy_open hS (8 + n) [] hlat hC.1 (by simp)
      rw [show ((0 : Nat) : Int) = 0 from rfl, show ((40 : Nat) : Int) = 40 from rfl, Int.natCast_add] at hop
      have hrs := fun W (k : Kept [] wr W) => sy_reset (hS.kept k) (8 + n) (by omega) (by omega)
      rw [Int.natCast_add] at hrs
      have hu8 : ((8 : Nat) : Int) = 8 := rfl
      rw [hu8] at hop hrs
      clear hS hC hu8
      go_wp2_with fail
      refine hop.mono ?_
      rintro e w3 ⟨p2, rfl, hS3, k3⟩
      have hun := sy_units hS3
      rw [show ([] : List (List UInt8)).length = 0 from rfl] at hun
      clear hop
      go_wp2_with fail
      refine hun.mono ?_
      rintro e w4 ⟨g4, rfl, -, k4⟩
      have hro := sy_room (hS3.kept k4)
      rw [show ((40 : Nat) : Int) - (tot [] : Int) = 40 from rfl] at hro
      have k34 := k3.trans k4 (by simp)
      clear hun hS3 k3 k4
      go_wp2_with fail
      refine hro.mono ?_
      rintro e w5 ⟨rfl, k5⟩
      have hrs5 := hrs w5 (k34.trans k5 (by simp))
      clear hro hrs k34 k5
      go_wp2_with fail
      refine hrs5.mono ?_
      rintro e w6 ⟨rfl, hS6, -⟩
      clear hrs5 hlat
      go_wp2_with fail
      go_loopw [14, 81] (fun v i wx => ∃ (j : Nat) (s : St) (us : List (List UInt8)), i = .int .i64 (j : Int) ∧ j ≤ l2.length ∧ Sy w wx q p s 0 40 (8 + n) us false v.ownBlock.toList ∧ Calm s (360 + 18 * j) ∧ OwnsT wx v us ∧ (∀ g, v.ownBlock = some g → w.heap.size ≤ g)) (fun _ i _ => l2.length - (intOf i).toNat)
      case atStart => exact ⟨0, s, [], rfl, Nat.zero_le _, hS6, hC', OwnsT.nil _, by simp [Value.ownBlock]⟩
      case round =>
        clear hS6 hC'
        obtain ⟨j, s, us, rfl, hj, hS, hC, hO, hv⟩ := hrel
        obtain ⟨av, cv, hve⟩ := hO.form
        subst hve
        by_cases hlt : j < l2.length
        · have hlt2 : (j : Int) < (l2.length : Int) := by omega
          obtain ⟨x, hx⟩ : ∃ x, l2[j]? = some x := ⟨l2[j], by simp⟩
          obtain ⟨b, o, cap', ab, cb, hve, d0, d1, d2, hrx, hxo⟩ := HV2.out.at j x hx hS.k
          injection hve with e1 e2 e3
          subst e1 e3
          clear e2 hx
          have hua := unit_append hS hC (by omega) (fun y hy => hO.lt (by rw [Option.mem_toList] at hy; exact hy)) x hxo ab cb (hrx.kept hS.k (by simp))
          have hCn := hC.next 0 40 (8 + n) us (unitL x) (unitL_len x)
          have hslen := hS.len.1
          have HO := Hid.mk hO
          have HVg := Hid.mk hv
          clear hS hC hrx hxo hO hv
          go_wp2_with fail
          refine hua.mono ?_
          rintro e w3 ⟨a3, c3, rfl, -, -, hap⟩
          clear hua d0 d1 d2
          go_wp2_with fail
          refine hap.mono ?_
          rintro e w4 ⟨rfl, hS4, k4, hr4⟩
          have hO4 := HO.out.keptX k4 (fun g hg => by rw [Option.mem_toList]; exact hg)
          have hb4 : ∀ g, (Value.slice av us.length cv).ownBlock = some g → g < w4.heap.size := fun g hg => hO4.lt hg
          clear hap HO k4
          unfold nextU at hS4
          obtain ⟨s4, hs4⟩ : ∃ s4, nextS s 0 40 (8 + n) us (unitL x) = s4 := ⟨_, rfl⟩
          rw [hs4] at hS4 hCn
          clear hs4
          by_cases hE : wrongE us 40 (unitL x).length = 0
          · rw [if_pos hE] at hS4
            rw [hE]
            obtain ⟨ad, cd, w5, hrun, hO5, k5, hN5⟩ := append_text hO4 (unitL x) hslen
            have hst := str35 _ _ w4 hr4
            have hS5 : Sy w w5 q p s4 0 40 (8 + n) (us ++ [unitL x]) false (Value.slice ad (us.length + 1) cd).ownBlock.toList := hS4.turn2 k5 (fun y hy => hy) (fun y hy => HVg.out y (by rw [Option.mem_toList] at hy; exact hy)) (fun y hy => by
              rw [Option.mem_toList] at hy
              rcases hN5 y hy with h | h
              · exact .inl (by rw [Option.mem_toList]; exact h)
              · exact .inr h)
            have hV5 : Hid (∀ g, (Value.slice ad (us.length + 1) cd).ownBlock = some g → w.heap.size ≤ g) := fun g hg => by
              rcases hN5 g hg with h | h
              · exact HVg.out g h
              · have := hS4.k.size; omega
            have hop := sy_open hS5 (8 + n) (us ++ [unitL x]) hS5.ar hCn.1 (fun y hy => hO5.lt (by rw [Option.mem_toList] at hy; exact hy))
            rw [show ((0 : Nat) : Int) = 0 from rfl, show ((40 : Nat) : Int) = 40 from rfl, Int.natCast_add, show ((8 : Nat) : Int) = 8 from rfl] at hop
            generalize (⟨(unitL x).toArray⟩ : ByteArray) = T at hrun hst
            generalize (unitL x).length = m at hst
            have HS5 := Hid.mk hS5
            have HO5 := Hid.mk hO5
            have HCn := Hid.mk hCn
            clear hS4 hS5 hO4 hO5 k5 hN5 hr4 hCn HVg hb4
            go_wp2_with (at_builtin; refine wpList_append_run 28 _ _ rfl rfl _ _ rfl rfl _ _ hrun ?_)
            refine hop.mono ?_
            rintro e w6 ⟨p6, rfl, hS6, k6⟩
            have hun := sy_units hS6
            have hl6 : (us ++ [unitL x]).length = us.length + 1 := by simp
            have hS56 := HS5.out.kept k6
            have hO6 := HO5.out.kept k6 (by simp)
            have hl6b := hS6.len.1
            clear hop hS6 k6 HS5 HO5
            generalize us ++ [unitL x] = us6 at hun hl6 hS56 hO6 hl6b
            rw [hl6] at hun
            go_wp2_with fail
            refine hun.mono ?_
            rintro e w7 ⟨g7, rfl, hU7, k7⟩
            rw [← hl6] at hU7
            have hsm := same_yes hU7 (hO6.kept k7 (by simp)).reads hl6b
            rw [hl6] at hsm
            have hS7 := hS56.kept k7
            have hO7 := hO6.kept k7 (by simp)
            clear hun hU7 k7 hS56 hO6
            go_wp2_with fail
            refine hsm.mono ?_
            rintro e w8 ⟨rfl, k8⟩
            have hS8 := Hid.mk (hS7.kept k8)
            have hO8 := Hid.mk (hO7.kept k8 (by simp))
            clear hsm hS7 hO7 k8
            go_wp2_with fail
            exact ⟨⟨j + 1, s4, us6, by go_num, by omega, hS8.out, by rw [Nat.mul_add, ← Nat.add_assoc]; exact HCn.out, hO8.out, hV5.out⟩, by simp [intOf]; omega⟩
          · rw [if_neg hE] at hS4
            have hE2 : (wrongE us 40 (unitL x).length == 0) = false := by simpa using hE
            have hop := sy_open hS4 (8 + n) us hS4.ar hCn.1 (fun y hy => hb4 y (by rw [Option.mem_toList] at hy; exact hy))
            rw [show ((0 : Nat) : Int) = 0 from rfl, show ((40 : Nat) : Int) = 40 from rfl, Int.natCast_add, show ((8 : Nat) : Int) = 8 from rfl] at hop
            generalize wrongE us 40 (unitL x).length = E at hE2
            generalize (unitL x).length = m at hr4
            have HCn := Hid.mk hCn
            clear hr4 hCn hb4 hE
            go_wp2_with fail
            refine hop.mono ?_
            rintro e w6 ⟨p6, rfl, hS6, k6⟩
            have hun := sy_units hS6
            have hS56 := hS4.kept k6
            have hO6 := hO4.kept k6 (by simp)
            clear hop hS6 k6 hS4 hO4
            go_wp2_with fail
            refine hun.mono ?_
            rintro e w7 ⟨g7, rfl, hU7, k7⟩
            have hsm := same_yes hU7 (hO6.kept k7 (by simp)).reads hslen
            have hS7 := hS56.kept k7
            have hO7 := hO6.kept k7 (by simp)
            clear hun hU7 k7 hS56 hO6
            go_wp2_with fail
            refine hsm.mono ?_
            rintro e w8 ⟨rfl, k8⟩
            have hS8 := Hid.mk (hS7.kept k8)
            have hO8 := Hid.mk (hO7.kept k8 (by simp))
            clear hsm hS7 hO7 k8
            go_wp2_with fail
            exact ⟨⟨j + 1, s4, us, by go_num, by omega, hS8.out, by rw [Nat.mul_add, ← Nat.add_assoc]; exact HCn.out, hO8.out, HVg.out⟩, by simp [intOf]; omega⟩
        · have hlt2 : ¬ (j : Int) < (l2.length : Int) := by omega
          have hfin := Hid.mk hS.k
          clear hS hC hO hv
          go_wp2
          go_ret
          exact ⟨rfl, hfin.out⟩
theorem epochs_any (v1 v2 : Value) (l1 l2 : List OpL) (n : Nat) (w : World) (hv1 : HoldsO w v1 l1) (hv2 : HoldsO w v2 l2) (hn : n ≤ 255) : Calls Try.prog 5 #[v1, v2, .int .u8 (n : Int)] w fun e w' => e = .returned (.bool true) ∧ Kept [] w w' := by
  by_cases h : l1.length ≤ 20 ∧ l2.length ≤ 20
  · exact epochs_walk v1 v2 l1 l2 n w hv1 hv2 h.1 h.2 hn
  · obtain ⟨a1, c1, rfl, _⟩ := hv1
    obtain ⟨a2, c2, rfl, _⟩ := hv2
    exact epochs_long a1 l1.length c1 a2 l2.length c2 n w (by omega)
end Go.Proofs.Ytdcjaopmfccgbaa
