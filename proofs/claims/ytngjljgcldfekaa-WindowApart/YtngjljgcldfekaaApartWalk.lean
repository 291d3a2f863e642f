/-
  WindowApart: the walk.
-/
import Derived.Test.YtngjljgcldfekaaWr
namespace Go.Proofs.Ytngjljgcldfekaa
open Go.RowKit
set_option linter.unusedVariables false
/-- Two windows side by side. -/
structure Two (w0 w : World) (p q : Nat) (L A : List Cl) : Prop where
  a : Win w0 w p L
  b : Win w0 w q A
  ne : p ≠ q
section
variable {w0 w w' : World} {p q : Nat} {L A : List Cl}
theorem Two.kept0 (h : Two w0 w p q L A) (k : Kept [] w w') : Two w0 w' p q L A := ⟨h.a.kept0 k, h.b.kept0 k, h.ne⟩
theorem two_add (h : Two w0 w p q L A) {c s : Nat} (hc : U64 c) (hs : U64 s) : Calls Try.prog 11 #[.pointer (some ⟨p, 0, none⟩), Uv c, Uv s] w fun e w' => e = .returned (.bool (!seenL L c s)) ∧ Two w0 w' p q (nxt L c s) A := by
  refine (win_add h.a hc hs).mono ?_
  rintro e w1 ⟨rfl, h1, k1⟩
  exact ⟨rfl, h1, ⟨h.b.is.kept k1 (by simp; exact fun e => h.ne e.symm), h.b.good, h1.kept, h.b.new⟩, h.ne⟩
theorem Two.swap (h : Two w0 w p q L A) : Two w0 w q p A L := ⟨h.b, h.a, fun e => h.ne e.symm⟩
set_option maxRecDepth 100000 in
set_option maxHeartbeats 1000000 in
theorem apart_walk {a : Option Addr} {n c : Nat} {l : List Pr} (hr : PairsIn w (.slice a n c) l) (cl : Nat) (hcl : U64 cl) : Calls Try.prog 8 #[.slice a n c, Uv cl] w fun e w' => e = .returned (.bool true) ∧ Kept [] w w' := by
  obtain ⟨hn, hc1, hc2⟩ := hr.1.bound
  have HR := Hid.mk hr
  have HN := Hid.mk hn
  have HCL := Hid.mk hcl
  clear hr hn hcl
  go_enter Try.func8, Try.ntmps8
  go_wp2_with fail
  refine awake9.mono ?_
  rintro e w1 ⟨rfl, k1⟩
  by_cases h60 : 60 < n
  · have g60 : (60 : Int) < (n : Int) := by omega
    go_wp2_with fail
    refine awake9.mono ?_
    rintro e w2 ⟨rfl, k2⟩
    go_wp2_with fail
    go_ret
    exact ⟨rfl, k1.trans k2 (by simp)⟩
  · have g60 : ((60 : Int) < (n : Int)) = False := eq_false (by omega)
    go_wp2_with fail
    refine (win_new k1).mono ?_
    rintro e w2 ⟨rfl, h2, k2⟩
    go_wp2_with fail
    refine (win_new h2.kept).mono ?_
    rintro e w3 ⟨rfl, h3, k3⟩
    have hT : Two w w3 w1.heap.size w2.heap.size [] [] := ⟨h2.kept0 k3, h3, by have := h2.is.lt; omega⟩
    clear h2 h3 k2 k3
    generalize w1.heap.size = p at hT ⊢
    generalize w2.heap.size = q at hT ⊢
    go_wp2_with fail
    go_loopw [21] (fun i wr => ∃ (j : Nat) (L A : List Cl), i = .int .i64 (j : Int) ∧ j ≤ n ∧ Hid (Two w wr p q L A ∧ srl L cl = srl A cl ∧ L.length ≤ j)) (fun i _ => n - (intOf i).toNat)
    case atStart => exact ⟨0, [], [], rfl, by omega, Hid.mk ⟨hT, rfl, by simp⟩⟩
    case round =>
      clear hT
      obtain ⟨j, L, A, rfl, hj, hH⟩ := hrel
      obtain ⟨hT, hs, hl⟩ := hH.out
      by_cases hlt : j < n
      · have hjI : (j : Int) < (n : Int) := by omega
        have hj0 : (0 : Int) ≤ (j : Int) := by omega
        obtain ⟨x, hx⟩ : ∃ x, l[j]? = some x := ⟨_, List.getElem?_eq_getElem (by have := HN.out; omega)⟩
        have hxn := HR.out.2 x (List.mem_of_getElem? hx)
        obtain ⟨b, o, rfl, d0, d1⟩ := (HR.out.1.kept0 hT.a.kept).at hx
        have HA := Hid.mk (two_add (hT.kept0 (Kept.refl [] wr).drew) hxn.1 hxn.2)
        have HSL := Hid.mk hs
        have HLL := Hid.mk hl
        have HX := Hid.mk hx
        have HS : Hid (∀ W, Kept [] w W → W.cell? ⟨b, o + j * 2, none⟩ = some (Uv x.c) ∧ W.cell? ⟨b, o + j * 2 + 1, none⟩ = some (Uv x.s)) := fun W k => by
          obtain ⟨b', o', e, d0, d1⟩ := (HR.out.1.kept0 k).at HX.out
          injection e with e
          injection e with e1 e2 _
          subst e1 e2
          exact ⟨d0, d1⟩
        have S0 : wr.drew.cell? ⟨b, o + j * 2, none⟩ = some (Uv x.c) ∧ wr.drew.cell? ⟨b, o + j * 2 + 1, none⟩ = some (Uv x.s) := ⟨d0, d1⟩
        clear hT hs hl hx d0 d1 hH
        go_wp2_with fail
        go_region_held3 (fun W => W.cell? ⟨b, o + j * 2, none⟩ = some (Uv x.c) ∧ W.cell? ⟨b, o + j * 2 + 1, none⟩ = some (Uv x.s)) (first | exact S0 | exact S1) (first | (go_at_call 11; refine HA.out.mono ?_; rintro e w4 ⟨rfl, hT4⟩; have S1 := HS.out _ hT4.a.kept))
        clear S0
        obtain ⟨d0, d1⟩ := S1
        by_cases hc : x.c = cl
        · have g1 : ((x.c : Int) == (cl : Int)) = true := by simp [hc]
          have hsn : seenL L x.c x.s = seenL A cl x.s := by unfold seenL; rw [hc, HSL.out]
          have hB := two_add hT4.swap HCL.out hxn.2
          rw [← hsn] at hB
          have hfin : srl (nxt L x.c x.s) cl = srl (nxt A cl x.s) cl := by
            rw [hc, srl_nxt_same, srl_nxt_same, HSL.out]
          have HB := Hid.mk hB
          have HF := Hid.mk hfin
          have hbb : ∀ b : Bool, ((!b) != (!b)) = false := by decide
          have hbs := hbb (seenL L x.c x.s)
          generalize (!seenL L x.c x.s) = D at HB hbs ⊢
          clear hB hfin hsn hT4 hc hbb
          go_wp2_with fail
          refine HB.out.mono ?_
          rintro e w5 ⟨rfl, hT5⟩
          have H5 : Hid (Two w w5 p q (nxt L x.c x.s) (nxt A cl x.s) ∧ srl (nxt L x.c x.s) cl = srl (nxt A cl x.s) cl ∧ (nxt L x.c x.s).length ≤ j + 1) := ⟨hT5.swap, HF.out, by have := nxt_length L x.c x.s; have := HLL.out; omega⟩
          clear hT5 d0 d1
          go_wp2_with fail
          go_roundw
          case rel => exact ⟨j + 1, _, _, by go_num, by omega, H5⟩
          case measure => simp [intOf]; omega
        · have g1 : ((x.c : Int) == (cl : Int)) = false := by simp; omega
          have H5 : Hid (Two w w4 p q (nxt L x.c x.s) A ∧ srl (nxt L x.c x.s) cl = srl A cl ∧ (nxt L x.c x.s).length ≤ j + 1) := ⟨hT4, by rw [srl_nxt_other x.s (by omega) (by have := HLL.out; omega)]; exact HSL.out, by have := nxt_length L x.c x.s; have := HLL.out; omega⟩
          clear hT4 hc
          generalize (!seenL L x.c x.s) = D
          go_wp2_with fail
          go_roundw
          case rel => exact ⟨j + 1, _, _, by go_num, by omega, H5⟩
          case measure => simp [intOf]; omega
      · obtain rfl : j = n := by omega
        have HW := Hid.mk (win_serials hT.a cl)
        have HT := Hid.mk hT
        have HSL := Hid.mk hs
        clear hT hs hl hH
        go_wp2_with fail
        refine HW.out.mono ?_
        rintro e w3 ⟨v, rfl, hO, -, -, k3⟩
        have hT3 := HT.out.kept0 k3
        go_wp2_with fail
        refine (win_serials hT3.b cl).mono ?_
        rintro e w4 ⟨v', rfl, hO', -, h4, k4⟩
        obtain ⟨av, cv, rfl, -, -⟩ := hO.form
        obtain ⟨av', cv', rfl, -, -⟩ := hO'.form
        have HE := Hid.mk (same16 (hO.reads.kept0 k4) hO'.reads HSL.out)
        have HK := Hid.mk h4.kept
        clear hO hO' h4 hT3
        go_wp2_with fail
        refine HE.out.mono ?_
        rintro e w5 ⟨rfl, k5⟩
        go_wp2_with fail
        go_ret
        exact ⟨rfl, HK.out.trans k5 (by simp)⟩
end
end Go.Proofs.Ytngjljgcldfekaa
