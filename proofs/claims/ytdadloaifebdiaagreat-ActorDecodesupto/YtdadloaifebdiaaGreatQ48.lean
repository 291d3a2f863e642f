import Derived.Test.YtdadloaifebdiaaGreatQ26
import Derived.Test.YtdadloaifebdiaaGreatQ29
import Derived.Test.YtdadloaifebdiaaGreatQ41
import Derived.Test.YtdadloaifebdiaaGreatQ46
import Derived.Test.YtdadloaifebdiaaGreatQ47
/-
  awake; few.
-/
namespace Go.Proofs.YtdadloaifebdiaaGreat
set_option maxRecDepth 100000
open Go.RowKit
set_option linter.unusedVariables false
section
variable {w0 w w' : World} {p pj pi po : Nat} {a : Ac} {P : Pt} {v u : Value}
theorem PA.act (h : PA w0 w p pj pi po a.tries v a) (hv : PoiAt w v a.poi) (g : GoodP a) : IsAct w p a := by
  obtain ⟨h1, h2, ⟨qs, h3, h4⟩, ⟨ys, h5, h6⟩, -⟩ := h
  obtain ⟨ms, h7, h8, h9⟩ := hv
  obtain ⟨av, cv, rfl, -, -⟩ := h7.form
  have e : ms.length = a.poi.length := by rw [← h9, List.length_map]
  rw [e] at h1 h7
  exact ⟨pj, pi, po, av, cv, qs, ys, ms, h1, h2, h3, h4, h5, h6, h7, h8, h9, g⟩
theorem FA.act {f fj fi fo : Nat} (h : FA w0 w f fj fi fo a.tries v a) (hv : PoiAt w v a.poi) (g : GoodP a) : IsAf w f a := by
  obtain ⟨h1, ⟨uj, h2, -⟩, ⟨ui, qs, h3, h4⟩, ⟨uo, xo, ys, h5, h6⟩, -⟩ := h
  obtain ⟨ms, h7, h8, h9⟩ := hv
  obtain ⟨av, cv, rfl, -, -⟩ := h7.form
  have e : ms.length = a.poi.length := by rw [← h9, List.length_map]
  rw [e] at h1 h7
  exact ⟨w0, fj, fi, fo, uj, ui, uo, xo, av, cv, qs, ys, ms, h1, h2, h3, h4, h5, h6, h7, h8, h9, g⟩
theorem PoiAt.nil (w : World) : PoiAt w (.slice none 0 0) [] := ⟨[], ReadsR.nil 4 w, by intro q hq; simp at hq, rfl⟩
set_option maxHeartbeats 2000000 in
theorem awake5 : Calls Tryz.prog 5 #[] w fun e w' => e = .returned (.bool true) ∧ Kept [] w w' := by
  have hk : isKey [97] = true := by decide
  have HN := Hid.mk (new13 (w0 := w) (w := w) [97] hk (Nat.le_refl _))
  go_enter Tryz.func5, Tryz.ntmps5
  go_wp2_with fail
  refine HN.out.mono ?_
  rintro e w1 ⟨p, pj, pi, po, rfl, hpa, k1⟩
  have hact : IsAct w1 p (newA [97]) := PA.act hpa (PoiAt.nil w1) (GoodA.new hk).toGoodP
  have HF := Hid.mk (fresh14 hact)
  rw [freshA_new] at HF
  have HA := Hid.mk hact
  have HK1 := Hid.mk k1
  clear hact hpa k1 HN
  go_wp2_with fail
  refine HF.out.mono ?_
  rintro e w2 ⟨rfl, k2⟩
  have HK := Hid.mk (key15 (HA.out.kept0 k2))
  have HK2 := Hid.mk (HK1.out.trans k2 (by simp))
  have HA2 := Hid.mk (HA.out.kept0 k2)
  clear k2 HF HK1 HA
  go_wp2_with fail
  refine HK.out.mono ?_
  rintro e w3 ⟨rfl, k3⟩
  have HE := Hid.mk (encode8 (HA2.out.kept0 k3))
  have hE : encAE (newA [97]) = 0 := by unfold encAE; rw [if_pos (GoodA.new hk).sound]
  rw [hE] at HE
  have HK3 := Hid.mk (HK2.out.trans k3 (by simp))
  have hown : (newA [97]).out.own = [97] := rfl
  rw [hown]
  clear k3 HK HK2 HA2 hown
  go_wp2_with fail
  refine HE.out.mono ?_
  rintro e w4 ⟨v4, rfl, -, k4, -⟩
  go_wp2_with fail
  go_ret
  exact ⟨rfl, HK3.out.trans k4 (by simp)⟩
end
/-- Parts of a size that is looked at. -/
def Few (ls ps : List Lq) (ts : List (List UInt8)) (n : Nat) : Prop :=
  ls.length ≤ 100 ∧ ps.length ≤ 100 ∧ ts.length ≤ 200 ∧ n ≤ 500 ∧ (∀ q ∈ ls, q.x.args.length ≤ 100) ∧ (∀ q ∈ ps, q.x.args.length ≤ 100) ∧ ∀ t ∈ ts, t.length ≤ 1000
def FewB (ls ps : List Lq) (ts : List (List UInt8)) (n : Nat) (w : World) (e : Ending) (w' : World) : Prop := ∃ b : Bool, e = .returned (.bool b) ∧ (b = true → Few ls ps ts n) ∧ w' = w
section
variable {w : World}
set_option maxHeartbeats 4000000 in
theorem few10 {a0 a1 a2 a3 : Option Addr} {n0 c0 n1 c1 n2 c2 n3 c3 : Nat} {ls ps : List Lq} {ts : List (List UInt8)} (hl : RowQ w (.slice a0 n0 c0) ls) (hp : RowQ w (.slice a1 n1 c1) ps) (ht : TextsIn w (.slice a2 n2 c2) ts) :
    Calls Tryz.prog 10 #[.slice a0 n0 c0, .slice a1 n1 c1, .slice a2 n2 c2, .slice a3 n3 c3] w fun e w' => FewB ls ps ts n3 w e w' := by
  obtain ⟨h0, x0, y0⟩ := hl.bound
  obtain ⟨h1, x1, y1⟩ := hp.bound
  obtain ⟨h2, x2, y2⟩ := ht.bound
  have HN := Hid.mk (And.intro h0 (And.intro h1 h2))
  have HL := Hid.mk hl
  have HP := Hid.mk hp
  have HT := Hid.mk ht
  have HO : Hid (∀ W, W = w → FewB ls ps ts n3 w (.returned (.bool false)) W) := Hid.mk fun W e => ⟨false, rfl, ⟨(fun h => by cases h), e⟩⟩
  have HY : Hid (∀ W, Few ls ps ts n3 → W = w → FewB ls ps ts n3 w (.returned (.bool true)) W) := Hid.mk fun W h e => ⟨true, rfl, ⟨fun _ => h, e⟩⟩
  have HFew : Hid ((∀ q ∈ ls, q.x.args.length ≤ 100) → (∀ q ∈ ps, q.x.args.length ≤ 100) → (∀ t ∈ ts, t.length ≤ 1000) → n0 ≤ 100 → n1 ≤ 100 → n2 ≤ 200 → n3 ≤ 500 → Few ls ps ts n3) := Hid.mk fun a b c d e f g => ⟨by omega, by omega, by omega, g, a, b, c⟩
  generalize FewB ls ps ts n3 w = R at HO HY
  generalize Few ls ps ts n3 = F at HY HFew
  clear hl hp ht h0 h1 h2
  go_enter Tryz.func10, Tryz.ntmps10
  go_wp2_with fail
  go_loopw [14] (fun i wr => ∃ j : Nat, i = .int .i64 (j : Int) ∧ j ≤ n0 ∧ Hid (∀ q ∈ ls.take j, q.x.args.length ≤ 100) ∧ Hid (w = wr)) (fun i _ => n0 - (intOf i).toNat)
  case atStart => exact ⟨0, rfl, by omega, Hid.mk (by simp), Hid.mk rfl⟩
  case round =>
    obtain ⟨j, rfl, hj, ht0, kk⟩ := hrel
    obtain rfl := kk.out
    clear kk
    by_cases hlt : j < n0
    · obtain ⟨q, hq⟩ : ∃ q, ls[j]? = some q := ⟨_, List.getElem?_eq_getElem (by have := HN.out.1; omega)⟩
      obtain ⟨b, o, rfl, d0, d1, d2, d3⟩ := HL.out.at hq
      have d3 : w.cell? ⟨b, o + j * 4 + 3, none⟩ = some (.slice q.ad q.x.args.length q.cap) := d3
      have HQ := Hid.mk hq
      clear hq
      have hjI : (j : Int) < (n0 : Int) := by omega
      by_cases h1 : 100 < q.x.args.length
      · have g1 : (100 : Int) < (q.x.args.length : Int) := by omega
        go_wp2_with fail
        exact HO.out _ rfl
      · have g1 : ((100 : Int) < (q.x.args.length : Int)) = False := eq_false (by omega)
        by_cases h2 : 1000 < q.x.fr.length
        · have g2 : (1000 : Int) < (q.x.fr.length : Int) := by omega
          go_wp2_with fail
          exact HO.out _ rfl
        · have g2 : ((1000 : Int) < (q.x.fr.length : Int)) = False := eq_false (by omega)
          go_wp2_with fail
          go_roundw
          case rel =>
            refine ⟨j + 1, by go_num, by omega, Hid.mk (fun y hy => ?_), by trivial⟩
            rw [List.take_add_one, HQ.out] at hy
            rcases List.mem_append.1 hy with h | h
            · exact ht0.out y h
            · simp at h
              subst h
              omega
          case measure => simp [intOf]; omega
    · obtain rfl : j = n0 := by omega
      have hjI : ((j : Int) < (j : Int)) = False := eq_false (by omega)
      have A0 : Hid (∀ q ∈ ls, q.x.args.length ≤ 100) := Hid.mk (by
        have := ht0.out
        rwa [List.take_of_length_le (by have := HN.out.1; omega)] at this)
      clear ht0
      go_wp2_with fail
      go_loopw [36] (fun i wr => ∃ j : Nat, i = .int .i64 (j : Int) ∧ j ≤ n1 ∧ Hid (∀ q ∈ ps.take j, q.x.args.length ≤ 100) ∧ Hid (w = wr)) (fun i _ => n1 - (intOf i).toNat)
      case atStart => exact ⟨0, rfl, by omega, Hid.mk (by simp), Hid.mk rfl⟩
      case round =>
        obtain ⟨i, rfl, hi, ht0, kk⟩ := hrel
        obtain rfl := kk.out
        clear kk
        by_cases hlt : i < n1
        · obtain ⟨q, hq⟩ : ∃ q, ps[i]? = some q := ⟨_, List.getElem?_eq_getElem (by have := HN.out.2.1; omega)⟩
          obtain ⟨b, o, rfl, d0, d1, d2, d3⟩ := HP.out.at hq
          have d3 : w.cell? ⟨b, o + i * 4 + 3, none⟩ = some (.slice q.ad q.x.args.length q.cap) := d3
          have HQ := Hid.mk hq
          clear hq
          have hiI : (i : Int) < (n1 : Int) := by omega
          by_cases h1 : 100 < q.x.args.length
          · have g1 : (100 : Int) < (q.x.args.length : Int) := by omega
            go_wp2_with fail
            exact HO.out _ rfl
          · have g1 : ((100 : Int) < (q.x.args.length : Int)) = False := eq_false (by omega)
            by_cases h2 : 1000 < q.x.fr.length
            · have g2 : (1000 : Int) < (q.x.fr.length : Int) := by omega
              go_wp2_with fail
              exact HO.out _ rfl
            · have g2 : ((1000 : Int) < (q.x.fr.length : Int)) = False := eq_false (by omega)
              go_wp2_with fail
              go_roundw
              case rel =>
                refine ⟨i + 1, by go_num, by omega, Hid.mk (fun y hy => ?_), by trivial⟩
                rw [List.take_add_one, HQ.out] at hy
                rcases List.mem_append.1 hy with h | h
                · exact ht0.out y h
                · simp at h
                  subst h
                  omega
              case measure => simp [intOf]; omega
        · obtain rfl : i = n1 := by omega
          have hiI : ((i : Int) < (i : Int)) = False := eq_false (by omega)
          have A1 : Hid (∀ q ∈ ps, q.x.args.length ≤ 100) := Hid.mk (by
            have := ht0.out
            rwa [List.take_of_length_le (by have := HN.out.2.1; omega)] at this)
          clear ht0
          go_wp2_with fail
          go_loopw [58] (fun i wr => ∃ j : Nat, i = .int .i64 (j : Int) ∧ j ≤ n2 ∧ Hid (∀ t ∈ ts.take j, t.length ≤ 1000) ∧ Hid (w = wr)) (fun i _ => n2 - (intOf i).toNat)
          case atStart => exact ⟨0, rfl, by omega, Hid.mk (by simp), Hid.mk rfl⟩
          case round =>
            obtain ⟨k, rfl, hk, ht0, kk⟩ := hrel
            obtain rfl := kk.out
            clear kk
            by_cases hlt : k < n2
            · obtain ⟨t, hq⟩ : ∃ t, ts[k]? = some t := ⟨_, List.getElem?_eq_getElem (by have := HN.out.2.2; omega)⟩
              obtain ⟨b, o, rfl, d0⟩ := HT.out.at hq
              have HQ := Hid.mk hq
              clear hq
              have hkI : (k : Int) < (n2 : Int) := by omega
              by_cases h1 : 1000 < t.length
              · have g1 : (1000 : Int) < (t.length : Int) := by omega
                go_wp2_with fail
                exact HO.out _ rfl
              · have g1 : ((1000 : Int) < (t.length : Int)) = False := eq_false (by omega)
                go_wp2_with fail
                go_roundw
                case rel =>
                  refine ⟨k + 1, by go_num, by omega, Hid.mk (fun y hy => ?_), by trivial⟩
                  rw [List.take_add_one, HQ.out] at hy
                  rcases List.mem_append.1 hy with h | h
                  · exact ht0.out y h
                  · simp at h
                    subst h
                    omega
                case measure => simp [intOf]; omega
            · obtain rfl : k = n2 := by omega
              have hkI : ((k : Int) < (k : Int)) = False := eq_false (by omega)
              have A2 : Hid (∀ t ∈ ts, t.length ≤ 1000) := Hid.mk (by
                have := ht0.out
                rwa [List.take_of_length_le (by have := HN.out.2.2; omega)] at this)
              clear ht0
              by_cases h0 : j ≤ 100
              · have g0 : (j : Int) ≤ 100 := by omega
                by_cases h1 : i ≤ 100
                · have g1 : (i : Int) ≤ 100 := by omega
                  by_cases h2 : k ≤ 200
                  · have g2 : (k : Int) ≤ 200 := by omega
                    by_cases h3 : n3 ≤ 500
                    · have g3 : (n3 : Int) ≤ 500 := by omega
                      go_wp2_with fail
                      exact HY.out _ (HFew.out A0.out A1.out A2.out h0 h1 h2 h3) rfl
                    · have g3 : ((n3 : Int) ≤ 500) = False := eq_false (by omega)
                      go_wp2_with fail
                      exact HO.out _ rfl
                  · have g2 : ((k : Int) ≤ 200) = False := eq_false (by omega)
                    go_wp2_with fail
                    exact HO.out _ rfl
                · have g1 : ((i : Int) ≤ 100) = False := eq_false (by omega)
                  go_wp2_with fail
                  exact HO.out _ rfl
              · have g0 : ((j : Int) ≤ 100) = False := eq_false (by omega)
                go_wp2_with fail
                exact HO.out _ rfl
end
end Go.Proofs.YtdadloaifebdiaaGreat
/-
  ActorDecodes: the walk, over what Same answers.
-/
namespace Go.Proofs.YtdadloaifebdiaaGreat
set_option maxRecDepth 100000
open Go.RowKit
set_option linter.unusedVariables false
theorem GoodA.enc {a : Ac} (h : GoodA a) : encAB a = encAc a ∧ encAE a = 0 := by
  unfold encAB encAE
  rw [h.sound]
  exact ⟨rfl, rfl⟩
/-- Same answers yes where both are the same good actor. -/
def SameYes : Prop := ∀ (W : World) (p f : Nat) (a : Ac), IsAct W p a → IsAf W f a → GoodA a → Calls Tryz.prog 9 #[Ptr p, Ptr f] W fun e w' => e = .returned (.bool true) ∧ Kept [] W w'
section
variable {w : World}
set_option maxHeartbeats 4000000 in
theorem decodes_of (H9 : SameYes) (v : Value) (l : List UInt8) (hr : Reads w v l) (hin : Inside w v) (hl : l.length ≤ 3000000) : Calls Tryz.prog 3 #[v] w fun e w' => e = .returned (.bool true) ∧ Kept [] w w' := by
  have HR := Hid.mk hr
  have HIn := Hid.mk hin
  have H9' := Hid.mk H9
  have hform : ∃ a n c, v = .slice a n c := by obtain ⟨a, c, e, -⟩ := hr; exact ⟨a, _, c, e⟩
  obtain ⟨av, nv, cv, rfl⟩ := hform
  clear hr hin H9
  go_enter Tryz.func3, Tryz.ntmps3
  go_wp2_with fail
  refine awake5.mono ?_
  rintro e w1 ⟨rfl, k1⟩
  have HD := Hid.mk (decode6 _ l (HR.out.kept k1 (by simp)) hl)
  have HK1 := Hid.mk k1
  clear k1
  go_wp2_with fail
  refine HD.out.mono ?_
  clear HD
  rintro e w2 (⟨hn, rfl, k2⟩ | ⟨p, a, hs, rfl, hA, k2⟩)
  · have HK2 := Hid.mk (HK1.out.trans k2 (by simp))
    have HD := Hid.mk (rdecode7 _ l (HR.out.kept HK2.out (by simp)) (fun g hg => by have := HIn.out g hg; have := HK2.out.size; omega) hl)
    have HNo := Hid.mk hn
    clear k2 hn
    go_wp2_with fail
    refine HD.out.mono ?_
    rintro e w3 (⟨-, rfl, k3⟩ | ⟨p, a, hs, -⟩)
    · go_wp2_with fail
      go_ret
      exact ⟨rfl, HK2.out.trans k3 (by simp)⟩
    · rw [HNo.out] at hs
      cases hs
  · have HK2 := Hid.mk (HK1.out.trans k2 (by simp))
    have HD := Hid.mk (rdecode7 _ l (HR.out.kept HK2.out (by simp)) (fun g hg => by have := HIn.out g hg; have := HK2.out.size; omega) hl)
    have HYes := Hid.mk hs
    have HAct := Hid.mk hA
    clear k2 hs hA
    go_wp2_with fail
    refine HD.out.mono ?_
    rintro e w3 (⟨hn, -⟩ | ⟨f, a', hs, rfl, hF, k3⟩)
    · rw [HYes.out] at hn
      cases hn
    · rw [HYes.out] at hs
      injection hs with hs
      subst hs
      obtain ⟨he, hg⟩ := decAc_fwd HYes.out
      have HG := Hid.mk hg
      have H8 := Hid.mk (encode8 (HAct.out.kept0 k3))
      rw [hg.enc.1, hg.enc.2, he] at H8
      have HK3 := Hid.mk (HK2.out.trans k3 (by simp))
      have HA3 := Hid.mk (HAct.out.kept0 k3)
      have HF3 := Hid.mk hF
      clear he hg k3 hF HD
      go_wp2_with fail
      refine H8.out.mono ?_
      rintro e w4 ⟨v4, rfl, hO4, k4, -⟩
      obtain ⟨a4, c4, rfl⟩ := hO4.form
      have HS := Hid.mk (H9'.out w4 p f a (HA3.out.kept0 k4) (HF3.out.kept0 k4) HG.out)
      have HK4 := Hid.mk (HK3.out.trans k4 (by simp))
      have HV4 := Hid.mk hO4
      clear hO4 k4 H8
      go_wp2_with fail
      refine HS.out.mono ?_
      rintro e w5 ⟨rfl, k5⟩
      have s1 := str22 (HV4.out.kept k5 (by simp)).reads
      have s2 := str22 (HR.out.kept (HK4.out.trans k5 (by simp)) (by simp))
      have HK5 := Hid.mk (HK4.out.trans k5 (by simp))
      clear k5 HS
      go_wp2_with fail
      go_ret
      exact ⟨rfl, HK5.out⟩
end
end Go.Proofs.YtdadloaifebdiaaGreat
/-
  Rows of letters and of texts that came in, opened.
-/
namespace Go.Proofs.YtdadloaifebdiaaGreat
set_option maxRecDepth 100000
open Go.RowKit Go.Deep Go.ChangeShapes
set_option linter.unusedVariables false
theorem open_lets {H : Type} {enc : TypeId × Value → H} {W : World} {fuel : Nat} {cs : List Value} {x : DataW H × List MemPlace} (h : DataW.trod enc Tryz.prog W 0 (fun _ => true) true fuel 35 cs = some x) :
    ∃ v l, cs = [v] ∧ RowQ W v l ∧ ValsQ W l ∧ (∀ q ∈ l, q.x.ok) := by
  rcases open_slice Tryz.underlying35 h with ⟨h0, hx⟩ | ⟨a, len, cap, m, n, D, Pl, hcs, hb, hl, hm, hmm, hx, hel⟩
  · exact ⟨_, [], h0, ReadsR.nil 4 W, by intro x hx; simp at hx, by simp⟩
  · have hm' : m = cap := by simpa using hmm
    subst hm'
    have each : ∀ i, i < len → ∃ q : Lq, (∀ j y, (cellsQ q)[j]? = some y → W.cell? (a.add (i * 4 + j)) = some y) ∧ ReadsJ W q.sl q.x.args ∧ q.x.ok := by
      intro i hi
      obtain ⟨cs', h1, h2⟩ := hel i (by omega)
      rw [show Tryz.prog.cellsOf 90 = 4 by kernel_rfl] at h1
      obtain ⟨_, hlen, hcell⟩ := World.cells?_some h1
      obtain ⟨q, rfl, hr, hk⟩ := open_let h2 (by simpa using hlen)
      refine ⟨q, fun j y hy => ?_, hr, hk⟩
      have hj := (List.getElem?_eq_some_iff.1 hy).1
      have := hcell j (by simpa [cellsQ] using hj)
      rw [addr_add_add] at this
      rw [this]
      simp [hy]
    obtain ⟨f, hfp⟩ := choose_lt each
    have hll : ((List.range len).map f).length = len := by simp
    refine ⟨_, (List.range len).map f, hcs, ⟨some a, m, by rw [CQ_length, hll], by rw [CQ_length, hll]; omega, hm, by simp, fun hne => ?_⟩, ?_, ?_⟩
    · have hpos : 0 < len := by
        rcases Nat.eq_zero_or_pos len with h | h
        · subst h; simp [CQ] at hne
        · exact h
      obtain ⟨b, o, spot⟩ := a
      have hc := (hfp 0 (by omega)).1 0 _ rfl
      have hspot : spot = none := by simpa [Addr.add] using World.cell?_spot hc
      subst hspot
      refine ⟨b, o, rfl, fun j r hr i y hy => ?_⟩
      have hr' : ((List.range len).map f).map cellsQ = CQ ((List.range len).map f) := rfl
      rw [← hr', List.getElem?_map, Option.map_eq_some_iff] at hr
      obtain ⟨p, hp, rfl⟩ := hr
      have hj : j < len := by
        have := (List.getElem?_eq_some_iff.1 hp).1
        simpa using this
      rw [List.getElem?_map, List.getElem?_range hj] at hp
      simp at hp
      subst hp
      have := (hfp j hj).1 i y hy
      rw [add_at] at this
      rw [Nat.add_assoc]
      exact this
    · intro x hx
      simp only [List.mem_map, List.mem_range] at hx
      obtain ⟨i, hi, rfl⟩ := hx
      exact (hfp i hi).2.1
    · intro x hx
      simp only [List.mem_map, List.mem_range] at hx
      obtain ⟨i, hi, rfl⟩ := hx
      exact (hfp i hi).2.2
theorem open_letsI {H : Type} {enc : TypeId × Value → H} {W : World} {fuel : Nat} {cs : List Value} {x : DataW H × List MemPlace} (h : DataW.trod enc Tryz.prog W 0 (fun _ => true) true fuel 35 cs = some x) : ∃ v l, cs = [v] ∧ LetsIn W v l := open_lets h
theorem open_textsI {H : Type} {enc : TypeId × Value → H} {W : World} {fuel : Nat} {cs : List Value} {x : DataW H × List MemPlace} (h : DataW.trod enc Tryz.prog W 0 (fun _ => true) true fuel 36 cs = some x) :
    ∃ v l, cs = [v] ∧ TextsIn W v l := by
  rcases open_slice Tryz.underlying36 h with ⟨h0, hx⟩ | ⟨a, len, cap, m, n, D, Pl, hcs, hb, hl, hm, hmm, hx, hel⟩
  · exact ⟨_, [], h0, ReadsR.nil 1 W⟩
  · have hm' : m = cap := by simpa using hmm
    subst hm'
    have each : ∀ i, i < len → ∃ t : List UInt8, W.cell? (a.add i) = some (Sv t) := by
      intro i hi
      obtain ⟨cs', h1, h2⟩ := hel i (by omega)
      rw [show Tryz.prog.cellsOf 9 = 1 by kernel_rfl] at h1
      obtain ⟨_, hlen, hcell⟩ := World.cells?_some h1
      obtain ⟨s, e0, f0, w0⟩ := DataW.trod_string Tryz.underlying9 h2
      subst e0
      have h5 := hcell 0 (by simp)
      rw [addr_add_add] at h5
      refine ⟨s.data.toList, ?_⟩
      have hs : Sv s.data.toList = .string s := by
        obtain ⟨d⟩ := s
        simp
      rw [hs]
      simpa using h5
    obtain ⟨f, hfp⟩ := choose_lt each
    have hll : (CT ((List.range len).map f)).length = len := by simp [CT]
    refine ⟨_, (List.range len).map f, hcs, some a, m, by rw [hll], by rw [hll]; omega, hm, by simp, fun hne => ?_⟩
    have hpos : 0 < len := by
      rcases Nat.eq_zero_or_pos len with h | h
      · subst h; simp [CT] at hne
      · exact h
    obtain ⟨b, o, spot⟩ := a
    have hc := hfp 0 (by omega)
    have hspot : spot = none := by simpa [Addr.add] using World.cell?_spot hc
    subst hspot
    refine ⟨b, o, rfl, fun j r hr i y hy => ?_⟩
    rw [CT, List.getElem?_map, Option.map_eq_some_iff] at hr
    obtain ⟨p, hp, rfl⟩ := hr
    have hj : j < len := by
      have := (List.getElem?_eq_some_iff.1 hp).1
      simpa using this
    rw [List.getElem?_map, List.getElem?_range hj] at hp
    simp at hp
    subst hp
    have hi : i = 0 := by
      have := (List.getElem?_eq_some_iff.1 hy).1
      simp at this
      exact this
    subst hi
    simp at hy
    subst hy
    have := hfp j hj
    rw [add_at] at this
    rw [Nat.mul_one, Nat.add_zero]
    exact this
theorem sv_str (s : ByteArray) : Sv s.data.toList = .string s := by
  obtain ⟨d⟩ := s
  simp
end Go.Proofs.YtdadloaifebdiaaGreat
