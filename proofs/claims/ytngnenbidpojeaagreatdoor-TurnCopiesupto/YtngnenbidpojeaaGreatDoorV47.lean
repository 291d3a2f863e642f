import Derived.Test.YtngnenbidpojeaaGreatDoorV43
import Derived.Test.YtngnenbidpojeaaGreatDoorV46
/-
  TurnCopies' walk.
-/
namespace Go.Proofs.YtngnenbidpojeaaGreatDoor
set_option maxRecDepth 100000
open Go.RowKit
set_option linter.unusedVariables false
theorem PA.blocks {w0 w : World} {p pj pi po : Nat} {t : Int} {v : Value} {a : Ac} (h : PA w0 w p pj pi po t v a) : ∀ g ∈ [p, pj, pi, po], ∃ cs t, w.heap[g]? = some (.cells cs t (0, 0)) ∧ (t = 66 ∨ t = 177 ∨ t = 140 ∨ t = 168) := by
  obtain ⟨h1, h2, ⟨qs, h3, h4⟩, ⟨ys, h5, h6⟩, h7, h8, h9, h10⟩ := h
  obtain ⟨cs, hb⟩ := h5.bx
  intro g hg
  simp only [List.mem_cons, List.not_mem_nil, or_false] at hg
  rcases hg with rfl | rfl | rfl | rfl
  · exact ⟨_, _, h1, by simp⟩
  · exact ⟨_, _, h2.isP.box, by simp⟩
  · exact ⟨_, _, h3.box, by simp⟩
  · exact ⟨_, _, hb, by simp⟩
/-- An actor stays where another one, that lies apart, is turned. -/
theorem AP.aside {w0 v0 w w' : World} {p pj pi po q qj qi qo : Nat} {a b : Ac} (h : AP w0 w p pj pi po a) (hp : AP v0 w q qj qi qo b) (k : Kept [q, qj, qi, qo] w w') (hd : ∀ x ∈ [p, pj, pi, po], x ∉ [q, qj, qi, qo]) : AP w0 w' p pj pi po a := by
  obtain ⟨v, h1, h2, h3⟩ := h
  obtain ⟨v', q1, -, -⟩ := hp
  have T := q1.tt k
  refine ⟨v, ?_, h2.turn T (by decide) (by decide), h3⟩
  obtain ⟨a1, a2, ⟨qs, a3, a4⟩, ⟨ys, a5, a6⟩, a7, a8, a9, a10⟩ := h1
  obtain ⟨S, kS, hS⟩ := T
  refine ⟨k.keeps a1 (hd p (by simp)), a2.kept k (hd pj (by simp)), ⟨qs, a3.kept k (hd pi (by simp)) (fun y hy g hg hm => ?_), a4⟩, ⟨ys, a5.kept k (hd po (by simp)) (fun y hy g hg hm => ?_), a6⟩, a7, a8, a9, a10⟩
  · have hb := q1.blocks g hm
    obtain ⟨cs, t, hb, ht⟩ := hb
    exact absurd hg (ownsJ_ne (a3.args y hy) hb (by rcases ht with rfl | rfl | rfl | rfl <;> decide))
  · have hb := q1.blocks g hm
    obtain ⟨cs, t, hb, ht⟩ := hb
    exact absurd hg (ownsJ_ne (a5.args y hy) hb (by rcases ht with rfl | rfl | rfl | rfl <;> decide))
theorem takeA_tm' {p : Pg} {a : Ac} {now : Int} (g : GoodP a) (hO : OkP p) (hn : I64 now) : (takeA p a now).2.1.tm.length ≤ 900 := by
  unfold takeA
  split
  · split
    · exact Nat.zero_le _
    · rename_i x t hi
      have hF := resI_fit hO (g.inb x (by rw [hi]; simp)).1 hn g.j.st64
      unfold takeR
      split
      · split
        · exact Nat.zero_le _
        · exact hF.tm
      · split
        · exact Nat.zero_le _
        · split
          · exact Nat.zero_le _
          · exact Nat.zero_le _
  · exact Nat.zero_le _
theorem AP.lts {w0 w : World} {p pj pi po : Nat} {a : Ac} (h : AP w0 w p pj pi po a) : (w0.heap.size ≤ p ∧ w0.heap.size ≤ pj ∧ w0.heap.size ≤ pi ∧ w0.heap.size ≤ po) ∧ p < w.heap.size ∧ pj < w.heap.size ∧ pi < w.heap.size ∧ po < w.heap.size := by
  obtain ⟨v, hpa, -, -⟩ := h
  exact ⟨⟨hpa.hp, hpa.hj, hpa.hi, hpa.ho⟩, lt_of_block hpa.box, lt_of_block hpa.j.isP.box, lt_of_block hpa.i.choose_spec.1.box, hpa.ox.lt⟩
section
variable {w : World}
set_option maxHeartbeats 8000000 in
theorem copies6 {v sv : Value} {p : Pg} {ls ps : List Lq} {ts : List (List UInt8)} {es : List Ep} {tr : Int} (hP : PgIn w v p) (hG : Glob w) (hS : StIn w sv ls ps ts es tr) (now : Int) (hn : I64 now) :
    Calls Tryz.prog 6 #[v, sv, .int .i64 now] w fun e w' => e = .returned (.bool true) ∧ Kept [] w w' := by
  obtain ⟨⟨v1, u1, rfl, hI⟩, hK, hC⟩ := hP
  have hO : OkP p := fun x hx => (hC x hx).2
  obtain ⟨av, cv, bv, dv, rfl, rfl, -, -⟩ := hI.form
  obtain ⟨⟨a1, n1, c1, a2, n2, c2, a3, n3, c3, x4, rfl, hl, hp, ht, he⟩, hsz, h64⟩ := hS
  obtain ⟨a4, c4, rfl, -, -⟩ := rowE_form he.1
  obtain ⟨W0, e0, k0, hz0, hb0, hb1⟩ := box2 w (.cells #[.slice av p.names.length cv, .slice bv p.code.length dv] 25) (.cells #[.slice a1 n1 c1, .slice a2 n2 c2, .slice a3 n3 c3, .slice a4 es.length c4, .int .i64 tr] 29)
  have HK0 := Hid.mk k0
  have HI := Hid.mk hI
  have HG := Hid.mk hG
  have HX := Hid.mk (And.intro hK (And.intro hO hn))
  have HS : Hid (∀ W, Kept [] W0 W → (W.cell? ⟨w.heap.size, 0, none⟩ = some (.slice av p.names.length cv) ∧ W.cell? ⟨w.heap.size, 1, none⟩ = some (.slice bv p.code.length dv)) ∧ W.cell? ⟨w.heap.size + 1, 0, none⟩ = some (.slice a1 n1 c1) ∧ W.cell? ⟨w.heap.size + 1, 1, none⟩ = some (.slice a2 n2 c2) ∧ W.cell? ⟨w.heap.size + 1, 2, none⟩ = some (.slice a3 n3 c3) ∧ W.cell? ⟨w.heap.size + 1, 3, none⟩ = some (.slice a4 es.length c4) ∧ W.cell? ⟨w.heap.size + 1, 4, none⟩ = some (.int .i64 tr)) := Hid.mk fun W k => ⟨cells2_N (k.keeps hb0 (by simp)), cells5 (k.keeps hb1 (by simp))⟩
  have HAw : Hid (∀ W, Kept [] W0 W → Calls Tryz.prog 7 #[] W fun e w' => e = .returned (.bool true) ∧ Kept [] W w') := Hid.mk fun W k => awake7 (hG.kept (k0.then k))
  have HFw : Hid (∀ W, Kept [] W0 W → Calls Tryz.prog 8 #[.agg #[.slice a1 n1 c1, .slice a2 n2 c2, .slice a3 n3 c3, .slice a4 es.length c4, .int .i64 tr], .agg #[.slice av p.names.length cv, .slice bv p.code.length dv]] W fun e w' => FewS ls ps ts es.length p e ∧ Kept [] W w') := Hid.mk fun W k =>
    few8 (hl.1.kept (k0.then k) (by simp)) (hp.1.kept (k0.then k) (by simp)) (ht.kept0 (k0.then k)) (he.kept (k0.then k)).1 hsz (hI.keep (k0.then k)) hK
  have hn1 := hl.1.bound.1
  have hn2 := hp.1.bound.1
  have hn3 := ht.bound.1
  have HOf : Hid (∀ W, Kept [] W0 W → wL ls + wL ps + wT ts < 10000 → es.length < 300 → Calls Tryz.prog 9 #[Sv [109, 101], .slice a1 n1 c1, .slice a3 n3 c3, .slice a4 es.length c4, .int .i64 tr, .slice a2 n2 c2] W fun e w' => ∃ P v u, e = .returned (.tuple #[Ptr P.p, Ptr P.f]) ∧ Both W w' P tr v tr u (ofA [109, 101] ls ts es tr (ps.map (·.x))) (ofA [109, 101] ls ts es tr (ps.map (·.x))) ∧ PoiO w' v (ps.map (·.x)) ∧ PoiO w' u (ps.map (·.x))) := Hid.mk fun W k h1 h2 => by
    have kk := k0.then k
    have m1 := len_le_wL ls
    have m2 := len_le_wL ps
    have m3 := len_le_wT ts
    exact of9 (by decide) ⟨hl.1.kept kk (by simp), hl.2.1.kept0 kk, hl.2.2⟩ (ht.kept0 kk) (he.kept kk) ⟨hp.1.kept kk (by simp), hp.2.1.kept0 kk, hp.2.2⟩ (by omega) (by omega) (by omega) (by omega) (fun t hm => by have := text_le_wT hm; omega) (fun q hm => by have := arg_le_wL hm; omega)
  have HTh : Hid (∀ W, Kept [] W0 W → p.names.length ≤ 1000 → p.code.length ≤ 1000 → Calls Tryz.prog 11 #[.agg #[.slice av p.names.length cv, .slice bv p.code.length dv]] W fun e w' => ∃ a' c' b' d', e = .returned (.agg #[.slice a' p.names.length c', .slice b' p.code.length d']) ∧ IsP_N w' (.slice a' p.names.length c') (.slice b' p.code.length d') p ∧ Kept [] W w') := Hid.mk fun W k h1 h2 => by
    refine (theirs11 (hI.keep (k0.then k)) h1 h2).mono ?_
    rintro e w' ⟨v', u', rfl, hp, hk⟩
    obtain ⟨a', c', b', d', rfl, rfl, -, -⟩ := hp.form
    exact ⟨a', c', b', d', rfl, hp, hk⟩
  clear hI hG hK hC hO k0 hb0 hb1 hz0 hn hl hp ht he hsz h64 hn1 hn2 hn3
  obtain ⟨y0, y1⟩ := (HS.out W0 (Kept.refl _ _)).1
  go_enter Tryz.func6, Tryz.ntmps6
  go_wp2_with fail
  clear y0 y1
  refine (HAw.out W0 (Kept.refl [] W0)).mono ?_
  rintro e w1 ⟨rfl, k1⟩
  have K1 := Hid.mk k1
  clear k1
  obtain ⟨⟨y0, y1⟩, z0, z1, z2, z3, z4⟩ := HS.out w1 K1.out
  go_wp2_with fail
  refine (HFw.out w1 K1.out).mono ?_
  rintro e w2 ⟨hf, k2⟩
  have K2 : Hid (Kept [] W0 w2) := Hid.mk (K1.out.then k2)
  clear k2 y0 y1 z0 z1 z2 z3 z4
  rcases hf with ⟨rfl, q1, q2, q3, q4⟩ | rfl
  · obtain ⟨⟨y0, y1⟩, z0, z1, z2, z3, z4⟩ := HS.out w2 K2.out
    have HOf2 := Hid.mk (HOf.out w2 K2.out q1 q2)
    have HQ := Hid.mk (And.intro q1 (And.intro q2 (And.intro q3 q4)))
    clear q1 q2 q3 q4 HOf HFw
    go_wp2_with fail
    refine HOf2.out.mono ?_
    rintro e w3 ⟨P, v5, u5, rfl, hB, hv, hu⟩
    obtain ⟨A, hA⟩ : ∃ A, A = ofA [109, 101] ls ts es tr (ps.map (·.x)) := ⟨_, rfl⟩
    have hLim : Lim A ts.length es.length := by rw [hA]; exact ofA_lim _ _ _ _ _ _
    have htr : A.tries = tr := by rw [hA]; rfl
    have hpo : A.poi = ps.map (·.x) := by rw [hA]; rfl
    rw [← hA] at hB
    rw [← hpo] at hv hu
    rw [← htr] at hB
    have HAP := Hid.mk (hB.ap hv)
    have HAF := Hid.mk (hB.af hu)
    have K3 : Hid (Kept [] W0 w3) := Hid.mk (K2.out.then hB.k)
    have HL := Hid.mk hLim
    clear hB hv hu hA hLim htr hpo HOf2 y0 y1 z0 z1 z2 z3 z4
    have HTE : Hid (ts.length ≤ 10000 ∧ es.length ≤ 300) := Hid.mk ⟨by have := len_le_wT ts; have := HQ.out.1; omega, by have := HQ.out.2.1; omega⟩
    have HPL : Hid (W0.heap.size ≤ P.p ∧ W0.heap.size ≤ P.j ∧ W0.heap.size ≤ P.i ∧ W0.heap.size ≤ P.o) := by
      have := HAP.out.lts
      have := K2.out.size
      exact Hid.mk (by omega)
    have HC := Hid.mk (encode8 HAP.out.act)
    clear HAF
    obtain ⟨ee, hee⟩ : ∃ ee, encAE A = ee := ⟨_, rfl⟩
    obtain ⟨BA, hBA⟩ : ∃ BA, encAB A = BA := ⟨_, rfl⟩
    rw [hee, hBA] at HC
    have HEB := Hid.mk (And.intro hee hBA)
    clear hee hBA
    go_wp2_with fail
    refine HC.out.mono ?_
    rintro e w4 ⟨bv, rfl, hb4, k4, -⟩
    have K4 : Hid (Kept [] W0 w4) := Hid.mk (K3.out.then k4)
    have HAP4 := Hid.mk (HAP.out.kept0 k4)
    have HBV := Hid.mk hb4
    obtain ⟨be, bn, bc, rfl⟩ : ∃ a n c, bv = .slice a n c := by
      obtain ⟨a, c, e, -⟩ := hb4.reads
      exact ⟨a, _, c, e⟩
    clear hb4 k4 HC HAP
    cases hs : soundA A.tries A.inb.length A.poi with
    | false =>
      have hee : ee = 1 := by rw [← HEB.out.1]; unfold encAE; rw [hs]; rfl
      subst hee
      go_wp2_with fail
      go_ret
      exact ⟨rfl, HK0.out.then K4.out⟩
    | true =>
      have hee : ee = 0 := by rw [← HEB.out.1]; unfold encAE; rw [hs]; rfl
      have hBA : BA = encAc A := by rw [← HEB.out.2]; unfold encAB; rw [hs]; rfl
      have hga : GoodA A := by obtain ⟨_, _, _, g⟩ := HAP4.out; exact { g with sound := hs }
      have HDC := Hid.mk (decode6B (.slice be bn bc) BA HBV.out.reads (by rw [hBA]; have := encAc_length hga; omega))
      have hde : decAc BA = some A := by rw [hBA]; exact decAc_back hga
      have HDE := Hid.mk hde
      subst hee
      clear hde hBA hga hs
      go_wp2_with fail
      refine HDC.out.mono ?_
      rintro e w5 hd
      obtain ⟨p2, j2, i2, o2, rfl, hap2, k5⟩ : ∃ p2 j2 i2 o2, e = .returned (.tuple #[Ptr p2, .int .i64 0]) ∧ AP w4 w5 p2 j2 i2 o2 A ∧ Kept [] w4 w5 := by
        rcases hd with ⟨h1, -, -⟩ | ⟨p2, j2, i2, o2, a2, h1, h2, h3, h4⟩
        · rw [HDE.out] at h1; cases h1
        · rw [HDE.out] at h1
          obtain rfl := Option.some.inj h1
          exact ⟨p2, j2, i2, o2, h2, h3, h4⟩
      have K5 : Hid (Kept [] W0 w5) := Hid.mk (K4.out.then k5)
      have HAP5 := Hid.mk (HAP4.out.kept0 k5)
      have HCP5 := Hid.mk hap2
      have HDJ : Hid (∀ x ∈ [P.p, P.j, P.i, P.o], x ∉ [p2, j2, i2, o2]) := by
        have h1 := HAP4.out.lts
        have h2 := hap2.lts
        refine Hid.mk fun x hx hy => ?_
        simp only [List.mem_cons, List.not_mem_nil, or_false] at hx hy
        omega
      have HDJ2 : Hid (∀ x ∈ [p2, j2, i2, o2], x ∉ [P.p, P.j, P.i, P.o]) := Hid.mk fun x hx hy => HDJ.out x hy hx
      have HPL2 : Hid (W0.heap.size ≤ p2 ∧ W0.heap.size ≤ j2 ∧ W0.heap.size ≤ i2 ∧ W0.heap.size ≤ o2) := by
        have h2 := hap2.lts
        have := K4.out.size
        exact Hid.mk (by omega)
      have HTM : Hid ((takeA p A now).2.1.tm.length ≤ 900) := by
        obtain ⟨_, _, _, g⟩ := HAP5.out
        exact Hid.mk (takeA_tm' g HX.out.2.1 HX.out.2.2)
      obtain ⟨y0, y1⟩ := (HS.out w5 K5.out).1
      have HT5 := Hid.mk (HTh.out w5 K5.out (by have := HQ.out.2.2.1; omega) HQ.out.2.2.2)
      clear hap2 k5 HDC hd HAP4 HBV HDE HEB
      go_wp2_with fail
      refine HT5.out.mono ?_
      rintro e w6 ⟨b1, e1, b2, e2, rfl, ip, k6⟩
      have K6 : Hid (Kept [] W0 w6) := Hid.mk (K5.out.then k6)
      have HAP6 := Hid.mk (HAP5.out.kept0 k6)
      have HCP6 := Hid.mk (HCP5.out.kept0 k6)
      have HC := Hid.mk (take10 (HG.out.kept (HK0.out.then K6.out)) HAP6.out HL.out (by have := HTE.out; omega) (by have := HTE.out; omega) ip HX.out.1 HX.out.2.1 HX.out.2.2)
      clear ip k6 y0 y1 HT5 HAP5 HCP5
      go_wp2_with fail
      refine HC.out.mono ?_
      rintro e w7 ⟨v6, rfl, hoc, hap, k7⟩
      have HCP7 := Hid.mk (HCP6.out.aside HAP6.out k7 HDJ2.out)
      have K7 : Hid (Kept [] W0 w7) := Hid.mk (K6.out.trans k7 (fun x hx => by
        right
        have := HPL.out
        simp at hx
        rcases hx with rfl | rfl | rfl | rfl <;> omega))
      obtain ⟨tv, rfl, q1, q1n⟩ := hoc
      obtain ⟨a7, c7, rfl, -, -⟩ := q1.form
      rw [rowT_length] at *
      have HD2 := Hid.mk (fun (W : World) (nv cv : Value) (hg : Glob W) (h : AP w4 W p2 j2 i2 o2 A) (ip : IsP_N W nv cv p) => take10 (now := now) hg h HL.out (by have := HTE.out; omega) (by have := HTE.out; omega) ip HX.out.1 HX.out.2.1 HX.out.2.2)
      generalize takeA p A now = TR at *
      obtain ⟨W8, e8, k8, hz8, hb8⟩ := box1 w7 (.cells #[.bool TR.2.1.done, .bool TR.2.1.poi, .int .i64 TR.2.1.failed, .int .i64 (TR.2.1.steps : Int), .slice a7 TR.2.1.tm.length c7] 39)
      have HB8 := Hid.mk hb8
      have HAP8 := Hid.mk (hap.kept0 k8)
      have HCP8 := Hid.mk (HCP7.out.kept0 k8)
      have K8 : Hid (Kept [] W0 W8) := Hid.mk (K7.out.then k8)
      have Q8 : Hid (ReadsR 5 W8 (.slice a7 TR.2.1.tm.length c7) (rowT TR.2.1.tm) ∧ ∀ g, (Value.slice a7 TR.2.1.tm.length c7).ownBlock = some g → w6.heap.size ≤ g) := Hid.mk ⟨q1.keep k8, q1n⟩
      have HLT8 : Hid (∀ g, (Value.slice a7 TR.2.1.tm.length c7).ownBlock = some g → g ∉ [p2, j2, i2, o2]) := Hid.mk fun g hg hm => by
        have h1 := q1n g hg
        have h2 := HCP6.out.lts
        simp only [List.mem_cons, List.not_mem_nil, or_false] at hm
        omega
      have HLB8 : Hid (w7.heap.size ∉ [p2, j2, i2, o2]) := Hid.mk fun hm => by
        have h2 := HCP7.out.lts
        simp only [List.mem_cons, List.not_mem_nil, or_false] at hm
        omega
      obtain ⟨y0, y1⟩ := (HS.out W8 K8.out).1
      have HT8 := Hid.mk (HTh.out W8 K8.out (by have := HQ.out.2.2.1; omega) HQ.out.2.2.2)
      clear hap k7 HC HAP6 HCP6 HCP7 q1 q1n k8 hz8 hb8
      dsimp only [Oval]
      go_wp2_with fail
      refine HT8.out.mono ?_
      rintro e x1 ⟨b3, e3, b4, e4, rfl, ip, m1⟩
      have J1 : Hid (Kept [] W0 x1) := Hid.mk (K8.out.then m1)
      have HAP9 := Hid.mk (HAP8.out.kept0 m1)
      have HCP9 := Hid.mk (HCP8.out.kept0 m1)
      have HB9 := Hid.mk (m1.keeps HB8.out (by simp))
      have Q9 := Hid.mk (Q8.out.1.keep m1)
      have HC := Hid.mk (HD2.out x1 _ _ (HG.out.kept (HK0.out.then J1.out)) HCP9.out ip)
      clear ip m1 y0 y1 HT8 HAP8 HCP8 HD2
      go_wp2_with fail
      refine HC.out.mono ?_
      rintro e x2 ⟨v6, rfl, hoc, hap, m2⟩
      have HAP10 := Hid.mk (HAP9.out.aside HCP9.out m2 HDJ.out)
      have J2 : Hid (Kept [] W0 x2) := Hid.mk (J1.out.trans m2 (fun x hx => by
        right
        have := HPL2.out
        simp at hx
        rcases hx with rfl | rfl | rfl | rfl <;> omega))
      have HB10 := Hid.mk (m2.keeps HB9.out HLB8.out)
      have Q10 := Hid.mk (Q9.out.kept m2 HLT8.out)
      obtain ⟨tv2, rfl, r1, r1n⟩ := hoc
      obtain ⟨a9, c9, rfl, -, -⟩ := r1.form
      rw [rowT_length] at *
      obtain ⟨X3, g3, m3, hx3, hb3⟩ := box1 x2 (.cells #[.bool TR.2.1.done, .bool TR.2.1.poi, .int .i64 TR.2.1.failed, .int .i64 (TR.2.1.steps : Int), .slice a9 TR.2.1.tm.length c9] 39)
      have J3 : Hid (Kept [] W0 X3) := Hid.mk (J2.out.then m3)
      have HAP11 := Hid.mk (HAP10.out.kept0 m3)
      have HCP11 := Hid.mk (hap.kept0 m3)
      have HSB : Hid (∀ V, Kept [] X3 V → V.heap[w7.heap.size]? = some (.cells #[.bool TR.2.1.done, .bool TR.2.1.poi, .int .i64 TR.2.1.failed, .int .i64 (TR.2.1.steps : Int), .slice a7 TR.2.1.tm.length c7] 39 (0, 0)) ∧ V.heap[x2.heap.size]? = some (.cells #[.bool TR.2.1.done, .bool TR.2.1.poi, .int .i64 TR.2.1.failed, .int .i64 (TR.2.1.steps : Int), .slice a9 TR.2.1.tm.length c9] 39 (0, 0))) := Hid.mk fun V k => ⟨(m3.then k).keeps HB10.out (by simp), k.keeps hb3 (by simp)⟩
      have HIO1 : Hid (∀ V, Kept [] X3 V → IsOc w6.heap.size V (.agg #[.bool TR.2.1.done, .bool TR.2.1.poi, .int .i64 TR.2.1.failed, .int .i64 (TR.2.1.steps : Int), .slice a7 TR.2.1.tm.length c7]) TR.2.1) := Hid.mk fun V k => ⟨_, rfl, Q10.out.keep (m3.then k), Q8.out.2⟩
      have HIO2 : Hid (∀ V, Kept [] X3 V → IsOc x1.heap.size V (.agg #[.bool TR.2.1.done, .bool TR.2.1.poi, .int .i64 TR.2.1.failed, .int .i64 (TR.2.1.steps : Int), .slice a9 TR.2.1.tm.length c9]) TR.2.1) := Hid.mk fun V k => ⟨_, rfl, r1.keep (m3.then k), r1n⟩
      have HCE := Hid.mk (encode8 HAP11.out.act)
      have HCE2 : Hid (∀ V, Kept [] X3 V → Calls Tryz.prog 20 #[Ptr p2] V fun e w' => TwoB V (encAB TR.1) (encAE TR.1) e w') := Hid.mk fun V k => encode8 (HCP11.out.kept0 k).act
      clear HC HAP9 HCP9 HB8 HB9 HB10 Q8 Q9 Q10 HAP10 r1 r1n hap m2 m3 hx3 hb3
      generalize encAB TR.1 = BB at *
      generalize encAE TR.1 = be2 at *
      dsimp only [Oval]
      go_wp2_with fail
      refine HCE.out.mono ?_
      rintro e x4 ⟨bv2, rfl, hb4, m4, -⟩
      have M4 : Hid (Kept [] X3 x4) := Hid.mk m4
      obtain ⟨e3, n3', f3, rfl⟩ : ∃ a n c, bv2 = .slice a n c := by
        obtain ⟨a, c, e, -⟩ := hb4.reads
        exact ⟨a, _, c, e⟩
      have HR4 := Hid.mk hb4.reads
      clear hb4 m4 HCE
      go_wp2_with fail
      refine (HCE2.out _ M4.out).mono ?_
      rintro e x5 ⟨bv3, rfl, hb5, m5, -⟩
      have M5 : Hid (Kept [] X3 x5) := Hid.mk (M4.out.then m5)
      obtain ⟨e4, n4', f4, rfl⟩ : ∃ a n c, bv3 = .slice a n c := by
        obtain ⟨a, c, e, -⟩ := hb5.reads
        exact ⟨a, _, c, e⟩
      have HR5 : Hid (∀ V, Kept [] x5 V → (convert 73 9 (.slice e3 n3' f3)).run Tryz.prog V = .ok (Sv BB) V ∧ (convert 73 9 (.slice e4 n4' f4)).run Tryz.prog V = .ok (Sv BB) V) := Hid.mk fun V k =>
        ⟨string_of 73 5 Tryz.underlying73 9 Tryz.underlying5 Tryz.underlying9 _ BB V (HR4.out.kept (m5.then k) (by simp)), string_of 73 5 Tryz.underlying73 9 Tryz.underlying5 Tryz.underlying9 _ BB V (hb5.reads.kept k (by simp))⟩
      clear hb5 m5 HCE2 HR4
      have HSC : Hid (∀ V, Kept [] x5 V → (V.cell? ⟨w7.heap.size, 0, none⟩ = some (.bool TR.2.1.done) ∧ V.cell? ⟨w7.heap.size, 1, none⟩ = some (.bool TR.2.1.poi) ∧ V.cell? ⟨w7.heap.size, 2, none⟩ = some (.int .i64 TR.2.1.failed) ∧ V.cell? ⟨w7.heap.size, 3, none⟩ = some (.int .i64 (TR.2.1.steps : Int)) ∧ V.cell? ⟨w7.heap.size, 4, none⟩ = some (.slice a7 TR.2.1.tm.length c7)) ∧ (V.cell? ⟨x2.heap.size, 0, none⟩ = some (.bool TR.2.1.done) ∧ V.cell? ⟨x2.heap.size, 1, none⟩ = some (.bool TR.2.1.poi) ∧ V.cell? ⟨x2.heap.size, 2, none⟩ = some (.int .i64 TR.2.1.failed) ∧ V.cell? ⟨x2.heap.size, 3, none⟩ = some (.int .i64 (TR.2.1.steps : Int)) ∧ V.cell? ⟨x2.heap.size, 4, none⟩ = some (.slice a9 TR.2.1.tm.length c9)) ∧ (convert 73 9 (.slice e3 n3' f3)).run Tryz.prog V = .ok (Sv BB) V ∧ (convert 73 9 (.slice e4 n4' f4)).run Tryz.prog V = .ok (Sv BB) V) := Hid.mk fun V k => ⟨cells5 (HSB.out V (M5.out.then k)).1, cells5 (HSB.out V (M5.out.then k)).2, HR5.out V k⟩
      have KD : Hid (Kept [] x5 x5.drew) := Hid.mk (Kept.refl [] x5).drew
      have H14a : Hid (∀ V, Kept [] x5 V → Calls Tryz.prog 14 #[.agg #[.bool TR.2.1.done, .bool TR.2.1.poi, .int .i64 TR.2.1.failed, .int .i64 (TR.2.1.steps : Int), .slice a7 TR.2.1.tm.length c7]] V fun e w' => ∃ v', e = .returned v' ∧ IsOc V.heap.size w' v' TR.2.1 ∧ Kept [] V w') := Hid.mk fun V k => ours14 (HIO1.out V (M5.out.then k)) HTM.out
      have H14b : Hid (∀ V, Kept [] x5 V → Calls Tryz.prog 14 #[.agg #[.bool TR.2.1.done, .bool TR.2.1.poi, .int .i64 TR.2.1.failed, .int .i64 (TR.2.1.steps : Int), .slice a9 TR.2.1.tm.length c9]] V fun e w' => ∃ v', e = .returned v' ∧ IsOc V.heap.size w' v' TR.2.1 ∧ Kept [] V w') := Hid.mk fun V k => ours14 (HIO2.out V (M5.out.then k)) HTM.out
      have S0 := HSC.out _ KD.out
      have K5E : Hid (Kept [] W0 x5) := Hid.mk (J3.out.then M5.out)
      clear HR5 HSB HIO1 HIO2
      dsimp only [Oval]
      go_wp2_with fail
      go_region_held3 (fun V => (V.cell? ⟨w7.heap.size, 0, none⟩ = some (.bool TR.2.1.done) ∧ V.cell? ⟨w7.heap.size, 1, none⟩ = some (.bool TR.2.1.poi) ∧ V.cell? ⟨w7.heap.size, 2, none⟩ = some (.int .i64 TR.2.1.failed) ∧ V.cell? ⟨w7.heap.size, 3, none⟩ = some (.int .i64 (TR.2.1.steps : Int)) ∧ V.cell? ⟨w7.heap.size, 4, none⟩ = some (.slice a7 TR.2.1.tm.length c7)) ∧ (V.cell? ⟨x2.heap.size, 0, none⟩ = some (.bool TR.2.1.done) ∧ V.cell? ⟨x2.heap.size, 1, none⟩ = some (.bool TR.2.1.poi) ∧ V.cell? ⟨x2.heap.size, 2, none⟩ = some (.int .i64 TR.2.1.failed) ∧ V.cell? ⟨x2.heap.size, 3, none⟩ = some (.int .i64 (TR.2.1.steps : Int)) ∧ V.cell? ⟨x2.heap.size, 4, none⟩ = some (.slice a9 TR.2.1.tm.length c9)) ∧ (convert 73 9 (.slice e3 n3' f3)).run Tryz.prog V = .ok (Sv BB) V ∧ (convert 73 9 (.slice e4 n4' f4)).run Tryz.prog V = .ok (Sv BB) V) (first | with_reducible exact S0 | with_reducible exact HSC.out _ J9.out | with_reducible exact HSC.out _ J8.out | with_reducible exact HSC.out _ J7.out)
        (first
          | (go_at_call 13; first | refine (sameOut13 (HVA.out.keep K78.out) HVB.out).mono ?_ | refine (sameOut13 HVA.out (HVB.out.keep K78.out)).mono ?_
             rintro e y9 ⟨rfl, t9⟩; have J9 : Hid (Kept [] x5 y9) := Hid.mk (J8.out.then t9); clear t9)
          | (go_at_call 14; first
             | (with_reducible refine (H14a.out _ J7.out).mono ?_; rintro e y8 ⟨va, rfl, ha, t8⟩; have HVA := Hid.mk ha; have K78 := Hid.mk t8; have J8 : Hid (Kept [] x5 y8) := Hid.mk (J7.out.then t8); clear ha t8)
             | (with_reducible refine (H14b.out _ J7.out).mono ?_; rintro e y8 ⟨vb, rfl, hb, t8⟩; have HVB := Hid.mk hb; have K78 := Hid.mk t8; have J8 : Hid (Kept [] x5 y8) := Hid.mk (J7.out.then t8); clear hb t8)
             | (with_reducible refine (H14a.out _ KD.out).mono ?_; rintro e y7 ⟨va, rfl, ha, t7⟩; have HVA := Hid.mk ha; have J7 : Hid (Kept [] x5 y7) := Hid.mk (KD.out.then t7); clear ha t7)
             | (with_reducible refine (H14b.out _ KD.out).mono ?_; rintro e y7 ⟨vb, rfl, hb, t7⟩; have HVB := Hid.mk hb; have J7 : Hid (Kept [] x5 y7) := Hid.mk (KD.out.then t7); clear hb t7)))
      all_goals
        go_wp2_with fail
        go_ret
        exact ⟨rfl, HK0.out.then (K5E.out.then J9.out)⟩
  · go_wp2_with fail
    refine (HAw.out w2 K2.out).mono ?_
    rintro e w3 ⟨rfl, k3⟩
    go_wp2_with fail
    go_ret
    exact ⟨rfl, HK0.out.then (K2.out.then k3)⟩
end
end Go.Proofs.YtngnenbidpojeaaGreatDoor
