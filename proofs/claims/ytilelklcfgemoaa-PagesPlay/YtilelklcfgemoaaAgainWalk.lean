/-
  PagesAgain answers true.
-/
import Derived.Test.YtilelklcfgemoaaAwk
import Derived.Test.YtilelklcfgemoaaTx
namespace Go.Proofs.Ytilelklcfgemoaa
open Go.RowKit
set_option linter.unusedVariables false

theorem bks_text {n : Nat} (h : n ≤ 6000) : bks n ≤ 26 := by unfold bks; omega
/-- The power is on and stays; at most m writes so far. -/
def Calm (s : St) (m : Nat) : Prop := s.down = false ∧ s.fuse = -1 ∧ s.ws.length ≤ m
theorem Calm.more {s : St} {m k : Nat} (h : Calm s m) (vs : List Wr) (fu : Int) (hf : s.fuse < 0 → fu = s.fuse) (hv : vs.length ≤ k) : Calm { s with ws := s.ws ++ vs, fuse := fu } (m + k) := by
  obtain ⟨h1, h2, h3⟩ := h
  refine ⟨h1, ?_, ?_⟩
  · show fu = -1
    rw [hf (by omega), h2]
  · show (s.ws ++ vs).length ≤ _
    rw [List.length_append]
    omega
/-- len(p.Free()). -/
theorem sy_free_len {w0 w : World} {q p : Nat} {s : St} {fr ct : Nat} {L : List Ent} {fl X : List Nat} (h : Sy w0 w q p s fr ct L fl X) (C : Nat) (hl : Hid (fl.length = C)) :
    Calls Try.prog 14 #[.pointer (some ⟨p, 0, none⟩)] w fun e w' => ∃ a c, e = .returned (.slice a C c) ∧ Sy w0 w' q p s fr ct L fl X ∧ Kept [] w w' := by
  refine (sy_free h).mono ?_
  rintro e w5 ⟨v5, ns, rfl, hO5, ⟨hp5, -⟩, k5, -⟩
  obtain ⟨a5, c5, rfl, -, -⟩ := hO5.form
  have hlen5 := hp5.length_eq
  rw [hl.out] at hlen5
  rw [hlen5]
  exact ⟨a5, c5, rfl, h.kept k5, k5⟩

set_option maxRecDepth 100000 in
set_option maxHeartbeats 1000000 in
theorem again_all (w : World) (l : List UInt8) (a : Option Addr) (m c : Nat) (hm : Hid (m = l.length)) (hm0 : m ≤ 140737488351232) (hr : Reads w (.slice a m c) l) (hlt : ∀ g, (Value.slice a m c).ownBlock = some g → g < w.heap.size) (x : OpL) (hx : x.ok) (a1 : Option Addr) (c1 : Nat) (hr1 : Reads w (.slice a1 x.b.length c1) x.b) (n : Nat) (hn : n ≤ 255) :
    Calls Try.prog 8 #[.slice a m c, .agg #[.int .i64 x.kind, .int .i64 x.n, .slice a1 x.b.length c1], .int .u8 (n : Int)] w fun e w' => e = .returned (.bool true) ∧ Kept [] w w' := by
  have k0 := (Kept.refl [] w).alloc (.cells #[.int .i64 x.kind, .int .i64 x.n, .slice a1 x.b.length c1] 33)
  have hb : (w.alloc (.cells #[.int .i64 x.kind, .int .i64 x.n, .slice a1 x.b.length c1] 33)).heap[w.heap.size]? = some (.cells #[.int .i64 x.kind, .int .i64 x.n, .slice a1 x.b.length c1] 33 (0, 0)) := heap_alloc_new w _
  have hlt2 : ∀ g, (Value.slice a m c).ownBlock = some g → g < (w.alloc (.cells #[.int .i64 x.kind, .int .i64 x.n, .slice a1 x.b.length c1] 33)).heap.size := fun g hg => Nat.lt_of_lt_of_le (hlt g hg) k0.size
  go_enter Try.func8, Try.ntmps8
  go_wp2_with fail
  generalize w.alloc (.cells #[.int .i64 x.kind, .int .i64 x.n, .slice a1 x.b.length c1] 33) = wb at k0 hb hlt2 ⊢
  generalize w.heap.size = b at hb ⊢
  have hB : Hid (Boxed3 wb b (.int .i64 x.kind) (.int .i64 x.n) (.slice a1 x.b.length c1)) := Hid.mk hb
  have HR := Hid.mk (hr.kept k0 (by simp))
  have HR1 := Hid.mk (hr1.kept k0 (by simp))
  clear hb hr hr1 hlt
  refine (awake_any wb).mono ?_
  rintro e w1 ⟨rfl, k1⟩
  by_cases hbig : 2000 < m
  · have hgt : (2000 : Int) < (m : Int) := by omega
    go_wp2_with fail
    refine (awake_any w1).mono ?_
    rintro e w2 ⟨rfl, k2⟩
    have hK := (k0.trans k1 (by simp)).trans k2 (by simp)
    clear k0 k1 k2
    go_wp2
    go_ret
    exact ⟨rfl, hK⟩
  · have hgt : ¬ (2000 : Int) < (m : Int) := by omega
    have hnew := sy_new k1 60 0 60 (by omega) (by omega) (by omega)
    change Calls Try.prog 10 #[.int .i64 60] w1 _ at hnew
    go_wp2_with fail
    refine hnew.mono ?_
    rintro e w2 ⟨q, rfl, k2, hop'⟩
    have hop := hop' w2 (Kept.refl _ _)
    change Calls Try.prog 11 #[.pointer (some ⟨q, 0, none⟩), .int .i64 0, .int .i64 60, .slice none 0 0] w2 _ at hop
    clear hnew hop' k1 k2
    go_wp2_with fail
    refine hop.mono ?_
    rintro e w3 ⟨p, fl, rfl, hfl, hS, -⟩
    clear hop
    have hbk : bks m ≤ 9 := by unfold bks; omega
    have hput := sy_put hS a m c l hm.out (HR.out.kept hS.k (by simp)) (fun g hg => .inr (hlt2 g hg)) (by simp) (by omega) (by omega) rfl (.inl (by show (-1 : Int) < 0; omega)) (by simp)
    clear hS
    go_wp2_with fail
    refine hput.mono ?_
    rintro e w4 ⟨nm, vs, fu, rfl, -, hvs, -, hfu, hS, -⟩
    clear hput
    have hC : Calm ⟨60, [] ++ vs, fu, false⟩ 9 := by
      have := Calm.more (s := ⟨60, [], -1, false⟩) (m := 0) (k := 9) ⟨rfl, rfl, by simp⟩ vs fu hfu (by omega)
      exact this
    have hfl2 : Hid ((fl.drop (bks m)).length = 60 - bks m) := by show _ = _; rw [List.length_drop, hfl]
    generalize fl.drop (bks m) = fl2 at hS hfl2
    generalize hE : (nm, fl.take (bks m), l) = E0 at hS
    have hE1 : Hid (E0.1 = nm) := by show _ = _; rw [← hE]
    have hE2 : Hid (E0.2.2 = l) := by show _ = _; rw [← hE]
    simp only [List.nil_append] at hS hC
    generalize (⟨60, vs, fu, false⟩ : St) = s at hS hC
    clear hE hvs hfu hfl
    obtain ⟨c0, c1', c2⟩ := (hB.out.kept hS.k (by simp)).cells
    have htx := text_any x hx a1 c1 w4 (HR1.out.kept hS.k (by simp))
    go_wp2_with fail
    refine htx.mono ?_
    rintro e w5 ⟨v, rfl, hO, k5, hF⟩
    clear htx c0 c1' c2
    have hS5 := hS.more (Y := v.ownBlock.toList) k5 (fun y hy => hF y (by simpa using hy))
    rw [List.append_nil] at hS5
    obtain ⟨av, cv, rfl⟩ := hO.form
    have hfr := sy_free_len hS5 (60 - bks m) hfl2
    clear hS hF
    go_wp2_with fail
    refine hfr.mono ?_
    rintro e w6 ⟨a6, c6, rfl, hS6, k6⟩
    have hO6 := hO.kept k6 (by simp)
    clear hfr hO k5 k6 hS5
    obtain ⟨T, hT⟩ : ∃ T, Hid ((textL x).length = T) := ⟨_, rfl⟩
    have hT6 : T ≤ 6000 := by have := textL_len x; have := hT.out; omega
    have hTk := bks_text hT6
    have htb := tb_any T (by omega) w6
    rw [hT.out] at hO6 hS6 ⊢
    obtain ⟨D, hD⟩ : ∃ D, Hid (60 - bks m = D) := ⟨_, rfl⟩
    rw [hD.out] at hfl2 ⊢
    go_wp2_with fail
    refine htb.mono ?_
    rintro e w7 ⟨rfl, rfl⟩
    clear htb
    by_cases hno : D < bks T
    · have h1 : (D : Int) < (bks T : Int) := by omega
      have hK := k0.trans hS6.k (by simp)
      clear hS6 hO6 k0
      go_wp2
      go_ret
      exact ⟨rfl, hK⟩
    · have h1 : ((D : Int) < (bks T : Int)) = False := eq_false (by omega)
      have hno2 : bks T ≤ D := by omega
      have hD60 : D ≤ 60 := by have := hD.out; omega
      clear hno
      go_wp2_with fail
      go_loopw [53] (fun i wr => ∃ (j : Nat) (s : St) (fl' : List Nat), i = .int .u8 (j : Int) ∧ j ≤ n ∧ Sy wb wr q p s 0 60 [E0] fl' (Value.slice av T cv).ownBlock.toList ∧ Calm s (9 + 26 * j) ∧ Hid (fl'.length = D) ∧ Owns 5 wr (.slice av T cv) (textL x)) (fun i _ => n - (numOf i).toNat)
      case atStart => exact ⟨0, s, fl2, rfl, Nat.zero_le _, hS6, hC, hfl2, hO6⟩
      case round =>
        clear hS6 hC hfl2 hO6
        obtain ⟨j, s2, fl3, rfl, hj, hS, hC, hfl3, hO⟩ := hrel
        by_cases hjn : j < n
        · have hlt : (j : Int) < (n : Int) := by omega
          have hp := sy_put hS av T cv (textL x) hT.out.symm hO.reads (fun g hg => .inl (by simpa using hg)) (fun y hy => hO.lt (by simpa using hy)) (by omega) (by rw [hfl3.out]; omega) hC.1 (.inl (by rw [hC.2.1]; omega)) (by have := hC.2.2; omega)
          clear hS
          go_wp2_with fail
          refine hp.mono ?_
          rintro e w8 ⟨nm2, vs2, fu2, rfl, -, hvs, -, hfu, hS8, kx⟩
          have hO8 : Owns 5 w8 (.slice av T cv) (textL x) := by
            obtain ⟨S, k, hSS⟩ := kx
            exact hO.kept k (fun g hg => hSS g (by simpa using hg))
          have hC8 := Hid.mk (hC.more vs2 fu2 hfu (k := 26) (by omega))
          have hget := sy_get hS8 hC8.out.1 E0 (by simp)
          rw [hE1.out, hE2.out] at hget
          clear hp hC hfu hvs hO kx
          go_wp2_with fail
          refine hget.mono ?_
          rintro e w9 ⟨y, rfl, hOy, k9, -⟩
          have hO9 := hO8.kept k9 (by simp)
          have hS9 := hS8.kept k9
          have hs1 := str34 _ _ _ hOy.reads
          have hs2 := str34 _ _ _ (HR.out.kept hS9.k (by simp))
          have hne : ((nm2 : Int) == (nm : Int)) = false := by
            have hn := hS9.ok.names
            simp [hE1.out] at hn
            simp
            omega
          have hdr := sy_drop (A := [E0]) (x := (nm2, fl3.take (bks T), textL x)) (B := []) hS9 (fun y hy => hO9.lt (by simpa using hy))
          change Calls Try.prog 17 #[.pointer (some ⟨p, 0, none⟩), .int .i64 (nm2 : Int)] w9 _ at hdr
          clear hget hS8 hO8 hS9 k9
          go_wp2_with fail
          refine hdr.mono ?_
          rintro e w10 ⟨rfl, hS10, kx⟩
          have hO10 : Owns 5 w10 (.slice av T cv) (textL x) := by
            obtain ⟨S, k, hSS⟩ := kx
            exact hO9.kept k (fun g hg => hSS g (by simpa using hg))
          have hl10 : Hid ((fl3.drop (bks T) ++ fl3.take (bks T)).length = D) := by
            show _ = _
            rw [List.length_append, List.length_drop, List.length_take, hfl3.out]
            omega
          have hfr := sy_free_len hS10 D hl10
          clear hdr hO9 kx hS10 hs1 hs2
          go_wp2_with fail
          refine hfr.mono ?_
          rintro e w11 ⟨a11, c11, rfl, hS11, k11⟩
          have HO := Hid.mk (hO10.kept k11 (by simp))
          have HS := Hid.mk hS11
          clear hfr hO10 hS11 k11 hOy
          go_wp2
          exact ⟨⟨j + 1, _, _, by go_num, by omega, HS.out, by rw [Nat.mul_add]; exact hC8.out, hl10, HO.out⟩, by simp [numOf]; omega⟩
        · have hlt : ¬ (j : Int) < (n : Int) := by omega
          have hna := sy_names hS
          have hK := k0.trans hS.k (by simp)
          clear hS hO k0
          go_wp2_with fail
          refine hna.mono ?_
          rintro e w8 ⟨v8, ns, rfl, hO8, ⟨hp8, -⟩, k8, -⟩
          obtain ⟨a8, c8, rfl, -, -⟩ := hO8.form
          have hl8 := hp8.length_eq
          rw [show ([E0].map (·.1)).length = 1 from rfl] at hl8
          rw [hl8]
          have hK8 := hK.trans k8 (by simp)
          clear hna hO8 hp8 hl8 hK k8
          go_wp2
          go_ret
          exact ⟨rfl, hK8⟩
end Go.Proofs.Ytilelklcfgemoaa
