import Derived.Lib.MinMax
import Derived.Test.YtdadloaifebdiaaGreatQ20
import Derived.Test.YtdadloaifebdiaaGreatQ48
/-
  ActorBack: the walk, over what Same answers.
-/
namespace Go.Proofs.YtdadloaifebdiaaGreat
set_option maxRecDepth 100000
open Go.RowKit
set_option linter.unusedVariables false
/-- An index, cut to the length. -/
theorem idx_of (k : Int) (f : Nat) (hf : 0 < f) (hf2 : f ≤ 1000000) : ∃ i : Nat, i < f ∧ wrap64 ((IntKind.u64.wrap k).tmod (f : Int)) = (i : Int) ∧ IntKind.i64.wrap ((IntKind.u64.wrap k).tmod (f : Int)) = (i : Int) := by
  have h0 : 0 ≤ IntKind.u64.wrap k := by rw [IntKind.wrap_u64]; omega
  have h1 : 0 ≤ IntKind.u64.wrap k % (f : Int) := Int.emod_nonneg _ (by omega)
  have h2 : IntKind.u64.wrap k % (f : Int) < (f : Int) := Int.emod_lt_of_pos _ (by omega)
  rw [Int.tmod_eq_emod_of_nonneg h0]
  obtain ⟨i, hi⟩ := Int.eq_ofNat_of_zero_le h1
  rw [hi] at h2 ⊢
  refine ⟨i, by omega, ?_, ?_⟩
  · unfold wrap64
    omega
  · rw [IntKind.wrap_i64]
    omega
/-- A row of one's own that is not empty. -/
theorem Owns.some {w : World} {v : Value} {l : List UInt8} (h : Owns 5 w v l) (hl : 0 < l.length) : ∃ g cap, v = .slice (some ⟨g, 0, none⟩) l.length cap ∧ l.length ≤ cap ∧ cap ≤ 9223372036854775807 ∧ ∀ j, j < l.length → ∃ u, w.cell? ⟨g, j, none⟩ = some (.int .u8 u) ∧ w.frozen? ⟨g, j, none⟩ = false := by
  have hr := h.reads
  rcases h.2 with ⟨rfl, h0⟩ | ⟨g, cap, cur, rfl, _, hg, h1, h2, h3, h4⟩
  · omega
  · refine ⟨g, cap, rfl, h1, h2, fun j hj => ?_⟩
    obtain ⟨a, c, e, _, _, _, h5⟩ := hr
    obtain ⟨b, o, rfl, hc⟩ := h5 (by intro e; subst e; simp at hl)
    injection e with e _ _
    injection e with e
    injection e with e1 e2 _
    subst e1 e2
    have := hc j _ (List.getElem?_eq_getElem hj)
    rw [Nat.zero_add] at this
    exact ⟨_, this, by simp [World.frozen?, hg]⟩
theorem Owns.cell_at {w : World} {g n cap : Nat} {l : List UInt8} (h : Owns 5 w (.slice (Option.some ⟨g, 0, none⟩) n cap) l) (hn : n = l.length) {j : Nat} (hj : j < n) : ∃ u, w.cell? ⟨g, j, none⟩ = Option.some (.int .u8 u) ∧ w.frozen? ⟨g, j, none⟩ = false := by
  subst hn
  obtain ⟨g', cap', e, _, _, hc⟩ := h.some (by omega)
  injection e with e _ _
  injection e with e
  injection e with e _ _
  subst e
  exact hc j hj
/-- A byte that is turned. -/
theorem reads_set {w : World} {g n cap k : Nat} {l : List UInt8} (h : Reads w (.slice (some ⟨g, 0, none⟩) n cap) l) (u : UInt8) : Reads (w.setCell ⟨g, k, none⟩ (.int .u8 (u.toNat : Int))) (.slice (some ⟨g, 0, none⟩) n cap) (l.set k u) := by
  obtain ⟨a, c, e, h2, h3, h4, h5⟩ := h
  injection e with e1 e2 e3
  subst e1 e2 e3
  refine ⟨_, cap, by rw [List.length_set], by rw [List.length_set]; exact h2, h3, by simp, fun hne => ⟨g, 0, rfl, fun j y hy => ?_⟩⟩
  obtain ⟨b, o, e, hc⟩ := h5 (by intro e; subst e; simp at hne)
  injection e with e
  injection e with e1 e2 _
  subst e1 e2
  rw [List.getElem?_set] at hy
  rw [Nat.zero_add]
  split at hy
  · rename_i hkj
    subst hkj
    split at hy
    · rename_i hlt
      cases hy
      have := hc k _ (List.getElem?_eq_getElem hlt)
      rw [Nat.zero_add] at this
      exact World.cell?_setCell_same _ _ _ this
    · cases hy
  · rename_i hkj
    have := hc j y hy
    rw [Nat.zero_add] at this
    rw [World.cell?_setCell_other _ _ _ _ (by intro e; injection e; omega)]
    exact this
theorem reads_take {w : World} {a : Option Addr} {n cap k : Nat} {l : List UInt8} (h : Reads w (.slice a n cap) l) (hk : k ≤ n) : Reads w (.slice a k cap) (l.take k) := by
  obtain ⟨a, c, e, h2, h3, h4, h5⟩ := h
  injection e with e1 e2 e3
  subst e1 e2 e3
  have hl : (l.take k).length = k := by rw [List.length_take]; omega
  refine ⟨_, _, by rw [hl], by rw [hl]; omega, h3, h4, fun hne => ?_⟩
  obtain ⟨b, o, e, hc⟩ := h5 (by intro e; subst e; simp at hne)
  exact ⟨b, o, e, fun j u hu => hc j u (by
    have hj := (List.getElem?_eq_some_iff.1 hu).1
    rw [hl] at hj
    rwa [List.getElem?_take_of_lt hj] at hu)⟩
theorem rowQ_take {w : World} {a : Option Addr} {n c k : Nat} {l : List Lq} (h : RowQ w (.slice a n c) l) (hk : k ≤ n) : RowQ w (.slice a k c) (l.take k) := by
  obtain ⟨a', c', e, h2, h3, h4, h5⟩ := h
  injection e with e1 e2 e3
  subst e1 e2 e3
  rw [CQ_length] at h2 hk
  have hl : (CQ (l.take k)).length = k := by rw [CQ_length, List.length_take]; omega
  refine ⟨_, _, by rw [hl], by rw [hl]; omega, h3, h4, fun hne => ?_⟩
  obtain ⟨b, o, e, hc⟩ := h5 (by
    intro e
    have := congrArg List.length e
    rw [CQ_length] at this
    have hl0 : l = [] := List.eq_nil_of_length_eq_zero this
    subst hl0
    simp [CQ] at hne)
  refine ⟨b, o, e, fun j r hr i x hx => hc j r ?_ i x hx⟩
  rw [CQ, List.map_take] at hr
  have hj := (List.getElem?_eq_some_iff.1 hr).1
  rw [List.length_take] at hj
  rwa [List.getElem?_take_of_lt (by omega)] at hr
section
variable {w : World}
set_option maxHeartbeats 8000000 in
theorem back_of (H9 : SameYes) {a0 a1 a2 : Option Addr} {n0 c0 n1 c1 n2 c2 : Nat} {ls : List Lq} {ts : List (List UInt8)} {es : List Ep} (u : Nat) (hu : u < 256) (at_ : Int) (y : Nat) (hy : y < 256)
    (hl : LetsIn w (.slice a0 n0 c0) ls) (ht : TextsIn w (.slice a1 n1 c1) ts) (he : EvsIn w (.slice a2 n2 c2) es) :
    Calls Tryz.prog 4 #[.slice a0 n0 c0, .slice a1 n1 c1, .slice a2 n2 c2, .int .u8 (u : Int), .int .i64 at_, .int .u8 (y : Int)] w fun e w' => e = .returned (.bool true) ∧ Kept [] w w' := by
  obtain ⟨hn0, hc0, hc0'⟩ := hl.1.bound
  obtain ⟨hn1, hc1, hc1'⟩ := ht.bound
  have hn2 : n2 = es.length := by
    obtain ⟨a, c, e, -, -⟩ := rowE_form he.1
    injection e with _ e _
  have HN := Hid.mk (And.intro hn0 (And.intro hn1 hn2))
  have HL := Hid.mk hl
  have HT := Hid.mk ht
  have HE := Hid.mk he
  have H9' := Hid.mk H9
  have hme : isKey [109, 101] = true := by decide
  clear hl ht he hn0 hn1 hn2 H9
  go_enter Tryz.func4, Tryz.ntmps4
  go_wp2_with fail
  refine awake5.mono ?_
  rintro e w1 ⟨rfl, k1⟩
  have HK1 := Hid.mk k1
  have H10 := Hid.mk (few10 (w := w1) (a1 := none) (n1 := 0) (c1 := 0) (a3 := a2) (n3 := n2) (c3 := c2) (ps := []) (HL.out.1.kept k1 (by simp)) (ReadsR.nil 4 w1) (HT.out.kept0 k1))
  clear k1
  go_wp2_with fail
  refine H10.out.mono ?_
  rintro e w2 ⟨b, rfl, hb, rfl⟩
  clear H10
  cases b with
  | false =>
    clear hb
    go_wp2_with fail
    refine awake5.mono ?_
    rintro e w3 ⟨rfl, k3⟩
    go_wp2_with fail
    go_ret
    exact ⟨rfl, HK1.out.trans k3 (by simp)⟩
  | true =>
    obtain ⟨f1, -, f3, f4, f5, -, f7⟩ := hb rfl
    have HF := Hid.mk (And.intro f5 f7)
    clear hb f5 f7
    obtain ⟨r, hr⟩ : ∃ r, u % 3 = r := ⟨_, rfl⟩
    have hI : ((u : Int) % 3) = (r : Int) := by omega
    have hr3 : r < 3 := by omega
    clear hr
    obtain ⟨m, hm⟩ : ∃ m, min n0 2 = m := ⟨_, rfl⟩
    have hmI : min (n0 : Int) 2 = (m : Int) := by omega
    have hm2 : m ≤ n0 ∧ m ≤ 2 := by omega
    clear hm
    by_cases h0 : n0 = 0
    · have g0 : ((n0 : Int) == 0) = true := by rw [h0]; rfl
      clear h0
      have kk := HK1.out
      have HO := Hid.mk (of11 (w := w2) (key := [109, 101]) (tr := (0 : Int)) hme ⟨HL.out.1.kept kk (by simp), HL.out.2.1.kept0 kk, HL.out.2.2⟩ (HT.out.kept0 kk) ⟨ReadsR.kept HE.out.1 kk (by simp), HE.out.2⟩ ⟨rowQ_take (k := m) (HL.out.1.kept kk (by simp)) (by omega), fun q hq => (HL.out.2.1.kept0 kk) q (List.mem_of_mem_take hq), fun q hq => HL.out.2.2 q (List.mem_of_mem_take hq)⟩
        (by have := HN.out; omega) (by have := HN.out; omega) (by have := HN.out; omega) (by omega) HF.out.2 (fun q hq => by have := HF.out.1 q (List.mem_of_mem_take hq); omega))
      clear f1 f3 f4 HF kk
      go_wp2_with fail
      refine HO.out.mono ?_
      rintro e w3 ⟨P, v, uu, rfl, hB, hv, hu'⟩
      have htr : (ofA [109, 101] ls ts es (0 : Int) ((ls.take m).map (·.x))).tries = (0 : Int) := rfl
      have hpoi : (ofA [109, 101] ls ts es (0 : Int) ((ls.take m).map (·.x))).poi = (ls.take m).map (·.x) := rfl
      generalize ofA [109, 101] ls ts es (0 : Int) ((ls.take m).map (·.x)) = A at hB htr hpoi
      have hpa : PA w2 w3 P.p P.j P.i P.o A.tries v A := by rw [htr]; exact hB.pa
      have hfa : FA w2 w3 P.f P.fj P.fi P.fo A.tries uu A := by rw [htr]; exact hB.fa
      rw [← hpoi] at hv hu'
      have HAp : Hid (IsAct w3 P.p A) := Hid.mk (hpa.act hv hB.ga)
      have HAf : Hid (IsAf w3 P.f A) := Hid.mk (hfa.act hu' hB.ga)
      have HGP := Hid.mk hB.ga
      have HK3 := Hid.mk (HK1.out.trans hB.k (by simp))
      have H8 := Hid.mk (encode8 HAp.out)
      clear hB hv hu' hpoi htr hpa hfa HO
      go_wp2_with fail
      refine H8.out.mono ?_
      rintro e w4 ⟨v4, rfl, hO4, k4, hf4⟩
      have H12 := Hid.mk (rencode12 (HAf.out.kept0 k4))
      have HV4 := Hid.mk (And.intro hO4 hf4)
      have HK4 := Hid.mk (HK3.out.trans k4 (by simp))
      have HK34 := Hid.mk k4
      obtain ⟨x4, y4, rfl⟩ := hO4.form
      clear hO4 k4 H8 hf4
      go_wp2_with fail
      refine H12.out.mono ?_
      rintro e w5 ⟨v5, rfl, hO5, k5, -⟩
      obtain ⟨x5, y5, rfl⟩ := hO5.form
      have s4 := str22 (HV4.out.1.kept k5 (by simp)).reads
      have s5 := str22 hO5.reads
      have HK5 := Hid.mk (HK4.out.trans k5 (by simp))
      have HK35 := Hid.mk (HK34.out.trans k5 (by simp))
      have HV5 := Hid.mk (HV4.out.1.kept k5 (by simp))
      clear hO5 k5 H12
      cases hs : soundA A.tries A.inb.length A.poi with
      | false =>
        have e1 : encAE A = 1 := by unfold encAE; rw [hs]; rfl
        rw [e1]
        clear hs
        go_wp2_with fail
        go_ret
        exact ⟨rfl, HK5.out⟩
      | true =>
        have HG : Hid (GoodA A) := Hid.mk { toGoodP := HGP.out, sound := hs }
        have e1 := HG.out.enc
        rw [e1.2]
        rw [e1.1] at s4 s5 HV5 HV4 ⊢
        have HN9 : Hid (0 < (encAc A).length ∧ (encAc A).length ≤ 16000) := Hid.mk ⟨by unfold encAc; have := enc_length A.tries.toNat; rw [List.length_append]; omega, encAc_length HG.out⟩
        have HD := Hid.mk (decode6 _ (encAc A) HV5.out.reads (by have := HN9.out; omega))
        have hback := Hid.mk (decAc_back HG.out)
        obtain ⟨g, cap, eg, -, -, -⟩ := HV5.out.some HN9.out.1
        injection eg with eg1 eg2 eg3
        subst eg1 eg3
        generalize hB : encAc A = B at *
        clear hB
        clear hs e1
        go_wp2_with fail
        refine HD.out.mono ?_
        rintro e w6 (⟨hn, -⟩ | ⟨p6, a6, hs6, rfl, hA6, k6⟩)
        · rw [hback.out] at hn
          cases hn
        · rw [hback.out] at hs6
          injection hs6 with hs6
          subst hs6
          have HS := Hid.mk (H9'.out w6 p6 P.f A hA6 (HAf.out.kept0 (HK35.out.trans k6 (by simp))) HG.out)
          have HK6 := Hid.mk (HK5.out.trans k6 (by simp))
          have HV6 := Hid.mk (HV5.out.kept k6 (by simp))
          clear hA6 k6 HD
          go_wp2_with fail
          refine HS.out.mono ?_
          rintro e w7 ⟨rfl, k7⟩
          have HK7 := Hid.mk (HK6.out.trans k7 (by simp))
          have HV7 := Hid.mk (HV6.out.kept k7 (by simp))
          obtain ⟨N, hN⟩ : ∃ N, Hid (B.length = N) := ⟨_, Hid.mk rfl⟩
          rw [hN.out] at HV7 HN9 ⊢
          obtain ⟨k, hk, ek, fk⟩ := idx_of at_ N HN9.out.1 (by have := HN9.out; omega)
          obtain ⟨c9, d9, d10⟩ := HV7.out.cell_at hN.out.symm hk
          obtain ⟨hcap, hcap2⟩ : N ≤ y4 ∧ y4 ≤ 9223372036854775807 := by
            obtain ⟨g', cap', e, h1, h2, -⟩ := HV7.out.some (by have := HN9.out; have := hN.out; omega)
            injection e with _ e2 e3
            omega
          have HD1 := Hid.mk (decodes_of H9'.out _ _ (reads_take HV7.out.reads (Nat.le_of_lt hk)) (fun g' hg' => by simp [Value.ownBlock] at hg'; subst hg'; exact HV7.out.lt rfl) (by rw [List.length_take]; have := HN9.out; omega))
          have hn0 : ((N : Int) == 0) = false := by simp; have := HN9.out; omega
          have hnw : IntKind.u64.wrap (N : Int) = (N : Int) := by rw [IntKind.wrap_u64]; have := HN9.out; omega
          have hkI : (k : Int) ≤ (N : Int) := by omega
          have hkc : (k : Int) ≤ (y4 : Int) := by omega
          have hk0 : (0 : Int) ≤ (k : Int) := by omega
          have hkl : (k : Int) < (N : Int) := by omega
          have hgw : w.heap.size ≤ g := by have := HV4.out.2 g rfl; have := HK3.out.size; omega
          clear k7 HS s4 s5 d9 d10
          go_wp2_with fail
          refine HD1.out.mono ?_
          rintro e w8 ⟨rfl, k8⟩
          have HV8 := HV7.out.kept k8 (by simp)
          obtain ⟨c9, d9, d10⟩ := HV8.cell_at hN.out.symm hk
          have hy8 : (UInt8.ofNat y).toNat = y := by simp; omega
          have hrs := reads_set (k := k) HV8.reads (UInt8.ofNat y)
          rw [hy8] at hrs
          have kk8 : Kept [g] w8 (w8.setCell ⟨g, k, none⟩ (.int .u8 (y : Int))) := (Kept.refl [g] w8).setCell (p := ⟨g, k, none⟩) (.inl (by simp)) _
          have hin9 : Inside (w8.setCell ⟨g, k, none⟩ (.int .u8 (y : Int))) (.slice (some ⟨g, 0, none⟩) N y4) := fun g' hg' => by
            have h1 := HV8.lt hg'
            have h2 := kk8.size
            omega
          have HD2 := Hid.mk (decodes_of H9'.out _ _ hrs hin9 (by rw [List.length_set, hN.out]; have := HN9.out; omega))
          have HK8 := Hid.mk ((HK7.out.trans k8 (by simp)).trans kk8 (fun x hx => by simp at hx; subst hx; exact .inr hgw))
          clear HV8 hrs kk8 k8 HD1
          go_wp2_with fail
          refine HD2.out.mono ?_
          rintro e w9 ⟨rfl, k9⟩
          go_wp2_with fail
          go_ret
          exact ⟨rfl, HK8.out.trans k9 (by simp)⟩
    · have g0 : ((n0 : Int) == 0) = false := beq_eq_false_iff_ne.2 (by omega)
      clear h0
      have kk := HK1.out
      have HO := Hid.mk (of11 (w := w2) (key := [109, 101]) (tr := (r : Int)) hme ⟨HL.out.1.kept kk (by simp), HL.out.2.1.kept0 kk, HL.out.2.2⟩ (HT.out.kept0 kk) ⟨ReadsR.kept HE.out.1 kk (by simp), HE.out.2⟩ ⟨rowQ_take (k := m) (HL.out.1.kept kk (by simp)) (by omega), fun q hq => (HL.out.2.1.kept0 kk) q (List.mem_of_mem_take hq), fun q hq => HL.out.2.2 q (List.mem_of_mem_take hq)⟩
        (by have := HN.out; omega) (by have := HN.out; omega) (by have := HN.out; omega) (by omega) HF.out.2 (fun q hq => by have := HF.out.1 q (List.mem_of_mem_take hq); omega))
      clear f1 f3 f4 HF kk
      go_wp2_with fail
      refine HO.out.mono ?_
      rintro e w3 ⟨P, v, uu, rfl, hB, hv, hu'⟩
      have htr : (ofA [109, 101] ls ts es (r : Int) ((ls.take m).map (·.x))).tries = (r : Int) := rfl
      have hpoi : (ofA [109, 101] ls ts es (r : Int) ((ls.take m).map (·.x))).poi = (ls.take m).map (·.x) := rfl
      generalize ofA [109, 101] ls ts es (r : Int) ((ls.take m).map (·.x)) = A at hB htr hpoi
      have hpa : PA w2 w3 P.p P.j P.i P.o A.tries v A := by rw [htr]; exact hB.pa
      have hfa : FA w2 w3 P.f P.fj P.fi P.fo A.tries uu A := by rw [htr]; exact hB.fa
      rw [← hpoi] at hv hu'
      have HAp : Hid (IsAct w3 P.p A) := Hid.mk (hpa.act hv hB.ga)
      have HAf : Hid (IsAf w3 P.f A) := Hid.mk (hfa.act hu' hB.ga)
      have HGP := Hid.mk hB.ga
      have HK3 := Hid.mk (HK1.out.trans hB.k (by simp))
      have H8 := Hid.mk (encode8 HAp.out)
      clear hB hv hu' hpoi htr hpa hfa HO
      go_wp2_with fail
      refine H8.out.mono ?_
      rintro e w4 ⟨v4, rfl, hO4, k4, hf4⟩
      have H12 := Hid.mk (rencode12 (HAf.out.kept0 k4))
      have HV4 := Hid.mk (And.intro hO4 hf4)
      have HK4 := Hid.mk (HK3.out.trans k4 (by simp))
      have HK34 := Hid.mk k4
      obtain ⟨x4, y4, rfl⟩ := hO4.form
      clear hO4 k4 H8 hf4
      go_wp2_with fail
      refine H12.out.mono ?_
      rintro e w5 ⟨v5, rfl, hO5, k5, -⟩
      obtain ⟨x5, y5, rfl⟩ := hO5.form
      have s4 := str22 (HV4.out.1.kept k5 (by simp)).reads
      have s5 := str22 hO5.reads
      have HK5 := Hid.mk (HK4.out.trans k5 (by simp))
      have HK35 := Hid.mk (HK34.out.trans k5 (by simp))
      have HV5 := Hid.mk (HV4.out.1.kept k5 (by simp))
      clear hO5 k5 H12
      cases hs : soundA A.tries A.inb.length A.poi with
      | false =>
        have e1 : encAE A = 1 := by unfold encAE; rw [hs]; rfl
        rw [e1]
        clear hs
        go_wp2_with fail
        go_ret
        exact ⟨rfl, HK5.out⟩
      | true =>
        have HG : Hid (GoodA A) := Hid.mk { toGoodP := HGP.out, sound := hs }
        have e1 := HG.out.enc
        rw [e1.2]
        rw [e1.1] at s4 s5 HV5 HV4 ⊢
        have HN9 : Hid (0 < (encAc A).length ∧ (encAc A).length ≤ 16000) := Hid.mk ⟨by unfold encAc; have := enc_length A.tries.toNat; rw [List.length_append]; omega, encAc_length HG.out⟩
        have HD := Hid.mk (decode6 _ (encAc A) HV5.out.reads (by have := HN9.out; omega))
        have hback := Hid.mk (decAc_back HG.out)
        obtain ⟨g, cap, eg, -, -, -⟩ := HV5.out.some HN9.out.1
        injection eg with eg1 eg2 eg3
        subst eg1 eg3
        generalize hB : encAc A = B at *
        clear hB
        clear hs e1
        go_wp2_with fail
        refine HD.out.mono ?_
        rintro e w6 (⟨hn, -⟩ | ⟨p6, a6, hs6, rfl, hA6, k6⟩)
        · rw [hback.out] at hn
          cases hn
        · rw [hback.out] at hs6
          injection hs6 with hs6
          subst hs6
          have HS := Hid.mk (H9'.out w6 p6 P.f A hA6 (HAf.out.kept0 (HK35.out.trans k6 (by simp))) HG.out)
          have HK6 := Hid.mk (HK5.out.trans k6 (by simp))
          have HV6 := Hid.mk (HV5.out.kept k6 (by simp))
          clear hA6 k6 HD
          go_wp2_with fail
          refine HS.out.mono ?_
          rintro e w7 ⟨rfl, k7⟩
          have HK7 := Hid.mk (HK6.out.trans k7 (by simp))
          have HV7 := Hid.mk (HV6.out.kept k7 (by simp))
          obtain ⟨N, hN⟩ : ∃ N, Hid (B.length = N) := ⟨_, Hid.mk rfl⟩
          rw [hN.out] at HV7 HN9 ⊢
          obtain ⟨k, hk, ek, fk⟩ := idx_of at_ N HN9.out.1 (by have := HN9.out; omega)
          obtain ⟨c9, d9, d10⟩ := HV7.out.cell_at hN.out.symm hk
          obtain ⟨hcap, hcap2⟩ : N ≤ y4 ∧ y4 ≤ 9223372036854775807 := by
            obtain ⟨g', cap', e, h1, h2, -⟩ := HV7.out.some (by have := HN9.out; have := hN.out; omega)
            injection e with _ e2 e3
            omega
          have HD1 := Hid.mk (decodes_of H9'.out _ _ (reads_take HV7.out.reads (Nat.le_of_lt hk)) (fun g' hg' => by simp [Value.ownBlock] at hg'; subst hg'; exact HV7.out.lt rfl) (by rw [List.length_take]; have := HN9.out; omega))
          have hn0 : ((N : Int) == 0) = false := by simp; have := HN9.out; omega
          have hnw : IntKind.u64.wrap (N : Int) = (N : Int) := by rw [IntKind.wrap_u64]; have := HN9.out; omega
          have hkI : (k : Int) ≤ (N : Int) := by omega
          have hkc : (k : Int) ≤ (y4 : Int) := by omega
          have hk0 : (0 : Int) ≤ (k : Int) := by omega
          have hkl : (k : Int) < (N : Int) := by omega
          have hgw : w.heap.size ≤ g := by have := HV4.out.2 g rfl; have := HK3.out.size; omega
          clear k7 HS s4 s5 d9 d10
          go_wp2_with fail
          refine HD1.out.mono ?_
          rintro e w8 ⟨rfl, k8⟩
          have HV8 := HV7.out.kept k8 (by simp)
          obtain ⟨c9, d9, d10⟩ := HV8.cell_at hN.out.symm hk
          have hy8 : (UInt8.ofNat y).toNat = y := by simp; omega
          have hrs := reads_set (k := k) HV8.reads (UInt8.ofNat y)
          rw [hy8] at hrs
          have kk8 : Kept [g] w8 (w8.setCell ⟨g, k, none⟩ (.int .u8 (y : Int))) := (Kept.refl [g] w8).setCell (p := ⟨g, k, none⟩) (.inl (by simp)) _
          have hin9 : Inside (w8.setCell ⟨g, k, none⟩ (.int .u8 (y : Int))) (.slice (some ⟨g, 0, none⟩) N y4) := fun g' hg' => by
            have h1 := HV8.lt hg'
            have h2 := kk8.size
            omega
          have HD2 := Hid.mk (decodes_of H9'.out _ _ hrs hin9 (by rw [List.length_set, hN.out]; have := HN9.out; omega))
          have HK8 := Hid.mk ((HK7.out.trans k8 (by simp)).trans kk8 (fun x hx => by simp at hx; subst hx; exact .inr hgw))
          clear HV8 hrs kk8 k8 HD1
          go_wp2_with fail
          refine HD2.out.mono ?_
          rintro e w9 ⟨rfl, k9⟩
          go_wp2_with fail
          go_ret
          exact ⟨rfl, HK8.out.trans k9 (by simp)⟩
end
end Go.Proofs.YtdadloaifebdiaaGreat
/-
  SameOuts: rows of letters with their targets, held against each other.
-/
namespace Go.Proofs.YtdadloaifebdiaaGreat
set_option maxRecDepth 100000
open Go.RowKit
set_option linter.unusedVariables false
section
variable {w : World}
set_option maxHeartbeats 8000000 in
theorem sameOuts44 {a a' : Option Addr} {n c c' : Nat} {l m : List Yq} (hr : ReadsR 5 w (.slice a n c) (CY l)) (hr' : ReadsR 5 w (.slice a' n c') (CY m)) (hv : ∀ y ∈ l, ReadsJ w y.q.sl y.q.x.args) (hv' : ∀ y ∈ m, ReadsJ w y.q.sl y.q.x.args) (hm : l.map ot = m.map ot) (hn : n = l.length) (hl : n ≤ 1000000) (ha : ∀ y ∈ l, y.q.x.args.length ≤ 1000000) :
    Calls Tryz.prog 44 #[.slice a n c, .slice a' n c'] w fun e w' => e = .returned (.bool true) ∧ Kept [] w w' := by
  obtain ⟨hc1, hc2⟩ : n ≤ c ∧ c ≤ 9223372036854775807 := by
    obtain ⟨a0, c0, e0, h1, h2⟩ := rowY_form hr
    injection e0 with e1 e2 e3
    omega
  obtain ⟨hc3, hc4⟩ : n ≤ c' ∧ c' ≤ 9223372036854775807 := by
    obtain ⟨a0, c0, e0, h1, h2⟩ := rowY_form hr'
    injection e0 with e1 e2 e3
    omega
  have HR := Hid.mk hr
  have HR' := Hid.mk hr'
  have HN := Hid.mk hn
  have HV := Hid.mk hv
  have HV' := Hid.mk hv'
  have HM := Hid.mk hm
  have HA := Hid.mk ha
  clear hr hr' hv hv' hm ha hn
  go_enter Tryz.func44, Tryz.ntmps44
  go_wp2_with fail
  go_loopw [13] (fun i wr => ∃ j : Nat, i = .int .i64 (j : Int) ∧ j ≤ n ∧ Hid (Kept [] w wr)) (fun i _ => n - (intOf i).toNat)
  case atStart => exact ⟨0, rfl, by omega, Hid.mk (Kept.refl [] w)⟩
  case round =>
    obtain ⟨j, rfl, hj, kk⟩ := hrel
    by_cases hlt : j < n
    · obtain ⟨y, hy⟩ : ∃ y, l[j]? = some y := ⟨_, List.getElem?_eq_getElem (by have := HN.out; omega)⟩
      obtain ⟨z, hz, t1, t2⟩ := ot_at HM.out hy
      obtain ⟨b, o, rfl, -⟩ := rowY_at HR.out hy
      obtain ⟨b', o', rfl, -⟩ := rowY_at HR'.out hz
      have hjI : (j : Int) < (n : Int) := by omega
      have HS : Hid (∀ W, Kept [] w W → W.cell? ⟨b, o + j * 5, none⟩ = some (Sv y.to) ∧ W.cell? ⟨b, o + j * 5 + 1, none⟩ = some (Sv y.q.x.fr) ∧ W.cell? ⟨b, o + j * 5 + 2, none⟩ = some (.int .u64 (y.q.x.ser : Int)) ∧ W.cell? ⟨b, o + j * 5 + 3, none⟩ = some (.int .i64 y.q.x.kind) ∧ W.cell? ⟨b, o + j * 5 + 4, none⟩ = some (.slice y.q.ad y.q.x.args.length y.q.cap) ∧
          W.cell? ⟨b', o' + j * 5, none⟩ = some (Sv y.to) ∧ W.cell? ⟨b', o' + j * 5 + 1, none⟩ = some (Sv y.q.x.fr) ∧ W.cell? ⟨b', o' + j * 5 + 2, none⟩ = some (.int .u64 (y.q.x.ser : Int)) ∧ W.cell? ⟨b', o' + j * 5 + 3, none⟩ = some (.int .i64 y.q.x.kind) ∧ W.cell? ⟨b', o' + j * 5 + 4, none⟩ = some (.slice z.q.ad y.q.x.args.length z.q.cap)) := Hid.mk fun W k => by
        obtain ⟨b1, o1, e1, x0, x1, x2, x3, x4⟩ := rowY_at (HR.out.kept k (by simp)) hy
        obtain ⟨b2, o2, e2, y0, y1, y2, y3, y4⟩ := rowY_at (HR'.out.kept k (by simp)) hz
        injection e1 with e1
        injection e1 with e11 e12
        injection e2 with e2
        injection e2 with e21 e22
        subst e11 e12 e21 e22
        rw [← t1] at y0
        rw [← t2] at y1 y2 y3
        have y4 : W.cell? ⟨b', o' + j * 5 + 4, none⟩ = some (.slice z.q.ad z.q.x.args.length z.q.cap) := y4
        rw [← t2] at y4
        exact ⟨x0, x1, x2, x3, x4, y0, y1, y2, y3, y4⟩
      have S0 := HS.out _ kk.out.drew
      have HC : Hid (Calls Tryz.prog 92 #[Lv y.q.x y.q.ad y.q.cap, Lv y.q.x z.q.ad z.q.cap] wr.drew fun e w' => e = .returned (.bool true) ∧ Kept [] wr.drew w') := Hid.mk (by
        have hz' := HV'.out z (List.mem_of_getElem? hz)
        have h1 : ReadsJ w (.slice z.q.ad y.q.x.args.length z.q.cap) y.q.x.args := by rw [t2]; exact hz'
        have := same16 y.q.x y.q.x y.q.ad z.q.ad y.q.cap z.q.cap ((HV.out y (List.mem_of_getElem? hy)).kept kk.out.drew (by simp)) (h1.kept kk.out.drew (by simp)) (by have := HA.out y (List.mem_of_getElem? hy); omega)
        rw [sameL_refl] at this
        exact this)
      clear hy hz t1 t2
      go_wp2_with fail
      go_region_held3 (fun W => W.cell? ⟨b, o + j * 5, none⟩ = some (Sv y.to) ∧ W.cell? ⟨b, o + j * 5 + 1, none⟩ = some (Sv y.q.x.fr) ∧ W.cell? ⟨b, o + j * 5 + 2, none⟩ = some (.int .u64 (y.q.x.ser : Int)) ∧ W.cell? ⟨b, o + j * 5 + 3, none⟩ = some (.int .i64 y.q.x.kind) ∧ W.cell? ⟨b, o + j * 5 + 4, none⟩ = some (.slice y.q.ad y.q.x.args.length y.q.cap) ∧
          W.cell? ⟨b', o' + j * 5, none⟩ = some (Sv y.to) ∧ W.cell? ⟨b', o' + j * 5 + 1, none⟩ = some (Sv y.q.x.fr) ∧ W.cell? ⟨b', o' + j * 5 + 2, none⟩ = some (.int .u64 (y.q.x.ser : Int)) ∧ W.cell? ⟨b', o' + j * 5 + 3, none⟩ = some (.int .i64 y.q.x.kind) ∧ W.cell? ⟨b', o' + j * 5 + 4, none⟩ = some (.slice z.q.ad y.q.x.args.length z.q.cap)) (first | with_reducible exact S0 | with_reducible exact HS.out _ HK1.out) (first | (go_at_call 92; refine HC.out.mono ?_; rintro e w1 ⟨rfl, k1⟩; have HK1 := Hid.mk (kk.out.drew.trans k1 (by simp)); clear k1))
      clear S0 HC HS kk
      go_wp2_with fail
      go_roundw
      case rel => exact ⟨j + 1, by go_num, by omega, HK1⟩
      case measure => simp [intOf]; omega
    · obtain rfl : j = n := by omega
      have hjI : ((j : Int) < (j : Int)) = False := eq_false (by omega)
      go_wp2_with fail
      go_ret
      exact ⟨rfl, kk.out⟩
end
end Go.Proofs.YtdadloaifebdiaaGreat
