import Derived.Test.YtdadloaifebdiaaQ35
/-
  ActorParts: the walk.
-/
namespace Go.Proofs.Ytdadloaifebdiaa
set_option maxRecDepth 100000
open Go.RowKit
set_option linter.unusedVariables false
section
variable {w : World} {p pj pi : Nat} {x0 x1 x2 x3 x4 : Value}
theorem cells44 {b : Nat} {t : TypeId} {v0 v1 v2 v3 v4 : Value} (h : w.heap[b]? = some (.cells #[v0, v1, v2, v3, v4] t (0, 0))) : w.cell? ⟨b, 0, none⟩ = some v0 ∧ w.cell? ⟨b, 1, none⟩ = some v1 ∧ w.cell? ⟨b, 2, none⟩ = some v2 ∧ w.cell? ⟨b, 3, none⟩ = some v3 ∧ w.cell? ⟨b, 4, none⟩ = some v4 := by
  refine ⟨?_, ?_, ?_, ?_, ?_⟩ <;> (unfold World.cell?; rw [h]; rfl)
theorem keeps_nil : Calls Try.prog 26 #[.pointer none] w fun e w' => e = .returned (.bool false) ∧ Kept [] w w' := by
  go_enter Try.func26, Try.ntmps26
  go_wp2_with fail
  go_ret
  exact ⟨rfl, Kept.refl [] _⟩
theorem keeps_j (h : w.heap[p]? = some (.cells #[.pointer none, x1, x2, x3, x4] 44 (0, 0))) : Calls Try.prog 26 #[Ptr p] w fun e w' => e = .returned (.bool false) ∧ Kept [] w w' := by
  obtain ⟨d0, -⟩ := cells44 h
  clear h
  go_enter Try.func26, Try.ntmps26
  go_wp2_with fail
  go_ret
  exact ⟨rfl, Kept.refl [] _⟩
theorem keeps_i (h : w.heap[p]? = some (.cells #[Ptr pj, .pointer none, x2, x3, x4] 44 (0, 0))) : Calls Try.prog 26 #[Ptr p] w fun e w' => e = .returned (.bool false) ∧ Kept [] w w' := by
  obtain ⟨d0, d1, -⟩ := cells44 h
  clear h
  go_enter Try.func26, Try.ntmps26
  go_wp2_with fail
  go_ret
  exact ⟨rfl, Kept.refl [] _⟩
theorem keeps_o (h : w.heap[p]? = some (.cells #[Ptr pj, Ptr pi, .pointer none, x3, x4] 44 (0, 0))) : Calls Try.prog 26 #[Ptr p] w fun e w' => e = .returned (.bool false) ∧ Kept [] w w' := by
  obtain ⟨d0, d1, d2, -⟩ := cells44 h
  have H := Hid.mk (owner24_nil (w := w))
  clear h
  go_enter Try.func26, Try.ntmps26
  go_wp2_with fail
  refine H.out.mono ?_
  rintro e w1 ⟨rfl, rfl⟩
  go_wp2_with fail
  go_ret
  exact ⟨rfl, Kept.refl [] _⟩
theorem enc_no {pp : Option Addr} (h : Calls Try.prog 26 #[.pointer pp] w fun e w' => e = .returned (.bool false) ∧ Kept [] w w') : Calls Try.prog 10 #[.pointer pp] w fun e w' => e = .returned (.tuple #[.slice none 0 0, .int .i64 1]) ∧ Kept [] w w' := by
  have H := Hid.mk h
  clear h
  go_enter Try.func10, Try.ntmps10
  go_wp2_with fail
  refine H.out.mono ?_
  rintro e w1 ⟨rfl, k1⟩
  go_wp2_with fail
  go_ret2
  exact ⟨rfl, k1⟩
end
section
variable {w : World}
set_option maxHeartbeats 4000000 in
theorem parts_walk (n : Nat) {a1 : Option Addr} {n1 c1 : Nat} {ps : List Lq} {tr : Int} (hn : n < 256) (hp : LetsIn w (.slice a1 n1 c1) ps) :
    Calls Try.prog 4 #[.int .u8 (n : Int), .slice a1 n1 c1, .int .i64 tr] w fun e w' => e = .returned (.bool true) ∧ Kept [] w w' := by
  obtain ⟨hn1, hc1, hc1'⟩ := hp.1.bound
  have HN := Hid.mk hn1
  have HP := Hid.mk hp
  clear hp hn1
  have hme : isKey [109, 101] = true := by decide
  go_enter Try.func4, Try.ntmps4
  go_wp2_with fail
  refine awake5.mono ?_
  rintro e w1 ⟨rfl, k1⟩
  have HK1 := Hid.mk k1
  have H10 := Hid.mk (few10 (w := w1) (a0 := none) (n0 := 0) (c0 := 0) (a2 := none) (n2 := 0) (c2 := 0) (a3 := none) (n3 := 0) (c3 := 0) (ls := []) (ts := []) (ReadsR.nil 4 w1) (HP.out.1.kept k1 (by simp)) (ReadsR.nil 1 w1))
  clear k1
  go_wp2_with fail
  refine H10.out.mono ?_
  rintro e w2 ⟨b, rfl, hb, rfl⟩
  clear H10
  cases b with
  | false =>
    clear hb
    go_wp2_with fail
    refine awake5.mono ?_
    rintro e w3 ⟨rfl, k3⟩
    go_wp2_with fail
    go_ret
    exact ⟨rfl, HK1.out.trans k3 (by simp)⟩
  | true =>
    obtain ⟨-, f2, -, -, -, f6, -⟩ := hb rfl
    have HF := Hid.mk f6
    have HNew := Hid.mk (new13 (w0 := w2) (w := w2) [109, 101] hme (Nat.le_refl _))
    clear hb f6
    go_wp2_with fail
    refine HNew.out.mono ?_
    rintro e w3 ⟨p, pj, pi, po, rfl, hpa, k3⟩
    obtain ⟨d0, d1, d2, d3, d4⟩ := cells44 hpa.box
    have z : ∀ i, w3.frozen? ⟨p, i, none⟩ = false := fun i => by simp [World.frozen?, hpa.box]
    have z0 := z 0
    have z1 := z 1
    have z2 := z 2
    have HPA := Hid.mk hpa
    have HK3 := Hid.mk (HK1.out.trans k3 (by simp))
    have HK23 := Hid.mk k3
    clear hpa k3 z HNew
    obtain ⟨r, hr⟩ : ∃ r, n % 6 = r := ⟨_, rfl⟩
    have hI : ((n : Int) % 6) = (r : Int) := by omega
    have hr6 : r < 6 := by omega
    clear hr
    have h6 : r = 0 ∨ r = 1 ∨ r = 2 ∨ r = 3 ∨ r = 4 ∨ r = 5 := by omega
    rcases h6 with rfl | rfl | rfl | rfl | rfl | rfl
    · have HB := Hid.mk (enc_no (w := w3.setCell ⟨p, 0, none⟩ (.pointer none)) (keeps_j (set_list (k := 0) (x := .pointer none) (L := [_, _, _, _, _]) HPA.out.box)))
      have HK := Hid.mk (HK23.out.trans ((Kept.refl [p] w3).setCell (p := ⟨p, 0, none⟩) (.inl (by simp)) (.pointer none)) (fun x hx => by simp at hx; subst hx; exact .inr HPA.out.hp))
      clear f2
      go_wp2_with fail
      refine HB.out.mono ?_
      rintro e w4 ⟨rfl, k4⟩
      go_wp2_with fail
      go_ret
      exact ⟨rfl, (HK1.out.trans HK.out (by simp)).trans k4 (by simp)⟩
    · have HB := Hid.mk (enc_no (w := w3.setCell ⟨p, 1, none⟩ (.pointer none)) (keeps_i (set_list (k := 1) (x := .pointer none) (L := [_, _, _, _, _]) HPA.out.box)))
      have HK := Hid.mk (HK23.out.trans ((Kept.refl [p] w3).setCell (p := ⟨p, 1, none⟩) (.inl (by simp)) (.pointer none)) (fun x hx => by simp at hx; subst hx; exact .inr HPA.out.hp))
      clear f2
      go_wp2_with fail
      refine HB.out.mono ?_
      rintro e w4 ⟨rfl, k4⟩
      go_wp2_with fail
      go_ret
      exact ⟨rfl, (HK1.out.trans HK.out (by simp)).trans k4 (by simp)⟩
    · have HB := Hid.mk (enc_no (w := w3.setCell ⟨p, 2, none⟩ (.pointer none)) (keeps_o (set_list (k := 2) (x := .pointer none) (L := [_, _, _, _, _]) HPA.out.box)))
      have HK := Hid.mk (HK23.out.trans ((Kept.refl [p] w3).setCell (p := ⟨p, 2, none⟩) (.inl (by simp)) (.pointer none)) (fun x hx => by simp at hx; subst hx; exact .inr HPA.out.hp))
      clear f2
      go_wp2_with fail
      refine HB.out.mono ?_
      rintro e w4 ⟨rfl, k4⟩
      go_wp2_with fail
      go_ret
      exact ⟨rfl, (HK1.out.trans HK.out (by simp)).trans k4 (by simp)⟩
    · have HB := Hid.mk (enc_no (w := w3) keeps_nil)
      clear f2
      go_wp2_with fail
      refine HB.out.mono ?_
      rintro e w4 ⟨rfl, k4⟩
      go_wp2_with fail
      go_ret
      exact ⟨rfl, HK3.out.trans k4 (by simp)⟩
    · obtain ⟨w4, e4, k4, z4, b4⟩ := box1 w3 (.cells #[.pointer none, .pointer none, .pointer none, .int .i64 0, .slice none 0 0] 44)
      have HE4 := Hid.mk e4
      have HK4 := Hid.mk k4
      have HB := Hid.mk (enc_no (w := w4) (keeps_j b4))
      clear f2 e4 k4 z4 b4
      go_wp2_with fail
      rw [HE4.out]
      refine HB.out.mono ?_
      rintro e w5 ⟨rfl, k5⟩
      go_wp2_with fail
      go_ret
      exact ⟨rfl, (HK3.out.trans HK4.out (by simp)).trans k5 (by simp)⟩
    · have HNi := Hid.mk (new10 (w := w3))
      go_wp2_with fail
      refine HNi.out.mono ?_
      rintro e w4 ⟨rfl, hB4, k4, z4⟩
      have h4 := HPA.out.kept0 k4
      obtain ⟨b4, j4, -, ⟨ys, o4, oy⟩, hpp, -, -, -⟩ := h4
      generalize w3.heap.size = p2 at *
      have T5 := TT.set (i := 1) b4 hpp (Ptr p2)
      have b5 := set_list (k := 1) (x := Ptr p2) (L := [_, _, _, _, _]) b4
      have kk5 : Kept [p] w4 (w4.setCell ⟨p, 1, none⟩ (Ptr p2)) := (Kept.refl [p] w4).setCell (p := ⟨p, 1, none⟩) (.inl (by simp)) _
      have T6 := TT.set (i := 3) b5 hpp (Iv tr)
      have b6 := set_list (k := 3) (x := Iv tr) b5
      have kk6 : Kept [p] w4 ((w4.setCell ⟨p, 1, none⟩ (Ptr p2)).setCell ⟨p, 3, none⟩ (Iv tr)) := kk5.setCell (p := ⟨p, 3, none⟩) (.inl (by simp)) _
      have T7 := TT.set (i := 4) b6 hpp (.slice a1 n1 c1)
      have b7 := set_list (k := 4) (x := .slice a1 n1 c1) b6
      have kk7 : Kept [p] w4 (((w4.setCell ⟨p, 1, none⟩ (Ptr p2)).setCell ⟨p, 3, none⟩ (Iv tr)).setCell ⟨p, 4, none⟩ (.slice a1 n1 c1)) := kk6.setCell (p := ⟨p, 4, none⟩) (.inl (by simp)) _
      have HK7 : Hid (Kept [] w (((w4.setCell ⟨p, 1, none⟩ (Ptr p2)).setCell ⟨p, 3, none⟩ (Iv tr)).setCell ⟨p, 4, none⟩ (.slice a1 n1 c1))) := Hid.mk (HK1.out.trans ((HK23.out.trans k4 (by simp)).trans kk7 (fun x hx => by simp at hx; subst hx; exact .inr hpp)) (by simp))
      have hj7 := T7.isJ (T6.isJ (T5.isJ j4 (by decide)) (by decide)) (by decide)
      have hb7 := T7.isB (T6.isB (T5.isB hB4 (by decide) (by decide)) (by decide) (by decide)) (by decide) (by decide)
      have ho7 := T7.isO (T6.isO (T5.isO o4 (by decide) (by decide)) (by decide) (by decide)) (by decide) (by decide)
      have hpok : ∀ x ∈ ps.map (·.x), Lt.ok x := fun x hx => by
        obtain ⟨q, hq, rfl⟩ := List.mem_map.1 hx
        exact HP.out.2.2 q hq
      have HAct : Hid (IsAct (((w4.setCell ⟨p, 1, none⟩ (Ptr p2)).setCell ⟨p, 3, none⟩ (Iv tr)).setCell ⟨p, 4, none⟩ (.slice a1 n1 c1)) p ⟨newJ, [], ⟨[109, 101], [], []⟩, tr, ps.map (·.x)⟩) := Hid.mk (by
        have e : n1 = (ps.map (·.x)).length := by rw [List.length_map]; exact HN.out
        have hrow := HP.out.1.kept HK7.out (by simp)
        have hvals := HP.out.2.1.kept0 HK7.out
        have g := (GoodA.new hme).toGoodP
        generalize ((w4.setCell ⟨p, 1, none⟩ (Ptr p2)).setCell ⟨p, 3, none⟩ (Iv tr)).setCell ⟨p, 4, none⟩ (.slice a1 n1 c1) = W at b7 hj7 hb7 ho7 hrow hvals
        rw [e] at b7 hrow
        exact ⟨pj, p2, po, a1, c1, [], ys, ps, b7, hj7, hb7, rfl, ho7, oy, hrow, hvals, rfl, ⟨g.j, g.i8, g.inb, g.out, hpok⟩⟩)
      have fr : ∀ (W : World) (L : List Value) i, W.heap[p]? = some (.cells L.toArray 44 (0, 0)) → W.frozen? ⟨p, i, none⟩ = false := fun W L i h => by simp [World.frozen?, h]
      have y1 := fr _ [_, _, _, _, _] 1 b4
      have y3 := fr _ _ 3 b5
      have y4 := fr _ _ 4 b6
      obtain ⟨-, x1, -, -, -⟩ := cells44 b4
      have x3 : (w4.setCell ⟨p, 1, none⟩ (Ptr p2)).cell? ⟨p, 3, none⟩ = some (Iv 0) := by unfold World.cell?; rw [b5]; rfl
      have x4 : ((w4.setCell ⟨p, 1, none⟩ (Ptr p2)).setCell ⟨p, 3, none⟩ (Iv tr)).cell? ⟨p, 4, none⟩ = some (.slice none 0 0) := by unfold World.cell?; rw [b6]; rfl
      have HOf : Hid (∀ W, Kept [] w W → Calls Try.prog 7 #[Sv [109, 101], .slice none 0 0, .slice none 0 0, .slice none 0 0, .int .i64 tr, .slice a1 n1 c1] W fun e w' => ∃ P v u, e = .returned (.tuple #[Ptr P.p, Ptr P.f]) ∧ Both W w' P tr v tr u (ofA [109, 101] [] [] [] tr (ps.map (·.x))) (ofA [109, 101] [] [] [] tr (ps.map (·.x))) ∧ PoiAt w' v (ps.map (·.x)) ∧ PoiAt w' u (ps.map (·.x))) := Hid.mk fun W kW => by
        exact of11 (w := W) (key := [109, 101]) (ls := []) (ts := []) (es := []) (tr := tr) hme ⟨ReadsR.nil 4 W, by intro q hq; simp at hq, by simp⟩ (ReadsR.nil 1 W) ⟨ReadsR.nil 2 W, by simp⟩ ⟨HP.out.1.kept kW (by simp), HP.out.2.1.kept0 kW, HP.out.2.2⟩ (by omega) (by omega) (by simp) (by have := HN.out; omega) (by simp) (fun q hq => by have := HF.out q hq; omega)
      clear b4 j4 o4 T5 T6 T7 b5 b6 b7 kk5 kk6 kk7 hj7 hb7 ho7 hB4 k4 z4 hpok HNi d0 d1 d2 d3 d4 z0 z1 z2 fr
      go_wp2_with fail
      generalize ((w4.setCell ⟨p, 1, none⟩ (Ptr p2)).setCell ⟨p, 3, none⟩ (Iv tr)).setCell ⟨p, 4, none⟩ (.slice a1 n1 c1) = w7 at HK7 HAct ⊢
      clear y1 y3 y4 x1 x3 x4
      refine (HOf.out _ HK7.out).mono ?_
      rintro e w8 ⟨P, v, u, rfl, hBo, hv, hu⟩
      have hE : encAE (ofA [109, 101] [] [] [] tr (ps.map (·.x))) = encAE ⟨newJ, [], ⟨[109, 101], [], []⟩, tr, ps.map (·.x)⟩ := rfl
      have HAf : Hid (IsAf w8 P.f (ofA [109, 101] [] [] [] tr (ps.map (·.x)))) := Hid.mk (hBo.fa.act (a := ofA [109, 101] [] [] [] tr (ps.map (·.x))) hu hBo.gb)
      have HK8 := Hid.mk (HK7.out.trans hBo.k (by simp))
      have H10 := Hid.mk (encode8 (HAct.out.kept0 hBo.k))
      have H11 : Hid (∀ W, Kept [] w8 W → Calls Try.prog 11 #[Ptr P.f] W fun e w' => TwoB W (encAB (ofA [109, 101] [] [] [] tr (ps.map (·.x)))) (encAE ⟨newJ, [], ⟨[109, 101], [], []⟩, tr, ps.map (·.x)⟩) e w') := Hid.mk fun W kW => by
        have := rencode12 (HAf.out.kept0 kW)
        rw [hE] at this
        exact this
      generalize encAE ⟨newJ, [], ⟨[109, 101], [], []⟩, tr, ps.map (·.x)⟩ = E at H10 H11
      clear hBo hv hu hE HOf HAct
      go_wp2_with fail
      refine H10.out.mono ?_
      rintro e w9 ⟨v9, rfl, -, k9, -⟩
      have HK9 := Hid.mk (HK8.out.trans k9 (by simp))
      have H11' := Hid.mk (H11.out _ k9)
      clear k9 H10 H11
      go_wp2_with fail
      refine H11'.out.mono ?_
      rintro e w10 ⟨v10, rfl, -, k10, -⟩
      go_wp2_with fail
      go_ret
      exact ⟨rfl, HK9.out.trans k10 (by simp)⟩
end
end Go.Proofs.Ytdadloaifebdiaa
