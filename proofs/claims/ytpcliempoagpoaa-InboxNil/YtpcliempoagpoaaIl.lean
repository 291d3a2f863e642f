/-
  Scripts of calls: rows of a kind and a letter; few, awake and same of the law.
-/
import Derived.Test.YtpcliempoagpoaaRi
import Derived.Test.YtpcliempoagpoaaOi
namespace Go.Proofs.Ytpcliempoagpoaa
open Go.RowKit Go.Deep Go.ChangeShapes
set_option linter.unusedVariables false
/-- A call: its kind, its letter and where that lies. -/
structure Oq where
  kind : Int
  q : Lq
instance : Inhabited Oq := ⟨⟨0, default⟩⟩
def cellsO (o : Oq) : List Value := .int .i64 o.kind :: cellsQ o.q
def CO (l : List Oq) : List (List Value) := l.map cellsO
theorem CO_length (l : List Oq) : (CO l).length = l.length := by simp [CO]
/-- The slice v reads as these calls. -/
def RowO (w : World) (v : Value) (l : List Oq) : Prop := ReadsR 5 w v (CO l)
theorem RowO.kept {S : List Nat} {w w' : World} {v : Value} {l : List Oq} (h : RowO w v l) (k : Kept S w w') (hn : ∀ g, v.ownBlock = some g → g ∉ S) : RowO w' v l := ReadsR.kept h k hn
theorem RowO.bound {w : World} {a : Option Addr} {n c : Nat} {l : List Oq} (h : RowO w (.slice a n c) l) : n = l.length ∧ n ≤ c ∧ c ≤ 9223372036854775807 := by
  obtain ⟨a', c', e, h1, h2⟩ := ReadsR.form h
  rw [CO_length] at e h1
  injection e with _ e2 e3
  subst e2 e3
  exact ⟨rfl, h1, h2⟩
theorem RowO.at {w : World} {a : Option Addr} {n c : Nat} {l : List Oq} (h : RowO w (.slice a n c) l) {j : Nat} {q : Oq} (hq : l[j]? = some q) : ∃ b o, a = some ⟨b, o, none⟩ ∧ w.cell? ⟨b, o + j * 5, none⟩ = some (.int .i64 q.kind) ∧ w.cell? ⟨b, o + j * 5 + 1, none⟩ = some (Sv q.q.x.fr) ∧ w.cell? ⟨b, o + j * 5 + 2, none⟩ = some (.int .u64 (q.q.x.ser : Int)) ∧ w.cell? ⟨b, o + j * 5 + 3, none⟩ = some (.int .i64 q.q.x.kind) ∧ w.cell? ⟨b, o + j * 5 + 4, none⟩ = some q.q.sl := by
  obtain ⟨b, o, c', e, hc⟩ := ReadsR.at h j (cellsO q) (by simp [CO, hq])
  injection e with e _ _
  have h0 := hc 0 _ rfl
  have h1 := hc 1 _ rfl
  have h2 := hc 2 _ rfl
  have h3 := hc 3 _ rfl
  have h4 := hc 4 _ rfl
  rw [Nat.add_zero] at h0
  exact ⟨b, o, e, h0, h1, h2, h3, h4⟩
/-- Calls that came in. -/
def OpsIn (W : World) (v : Value) (l : List Oq) : Prop := RowO W v l ∧ (∀ o ∈ l, ReadsJ W o.q.sl o.q.x.args ∧ o.q.x.ok)
set_option maxRecDepth 100000 in
theorem open_op {H : Type} {enc : TypeId × Value → H} {W : World} {fuel : Nat} {cs : List Value} {x : DataW H × List MemPlace} (h : DataW.trod enc Try.prog W 0 (fun _ => true) true fuel 39 cs = some x) (hl : cs.length = 5) :
    ∃ o : Oq, cs = cellsO o ∧ ReadsJ W o.q.sl o.q.x.args ∧ o.q.x.ok := by
  obtain ⟨xs, k, hk, hxy, _, hxl, hf⟩ := DataW.trod_struct Try.underlying39 h
  match xs, hxl, cs, hl with
  | [y0, y1], _, [v0, v1, v2, v3, v4], _ =>
    have g0 := hf 0 _ rfl
    have g1 := hf 1 _ rfl
    simp [show Try.prog.cellsOf 3 = 1 by kernel_rfl, show Try.prog.cellsOf 34 = 4 by kernel_rfl] at g0 g1
    obtain ⟨kd, e0, f0, w0⟩ := DataW.trod_int Try.underlying3 g0
    simp at e0
    subst e0
    obtain ⟨q, e1, hr, hk⟩ := open_let g1 rfl
    exact ⟨⟨kd, q⟩, by rw [e1]; rfl, hr, hk⟩
set_option maxRecDepth 100000 in
theorem open_ops {H : Type} {enc : TypeId × Value → H} {W : World} {fuel : Nat} {cs : List Value} {x : DataW H × List MemPlace} (h : DataW.trod enc Try.prog W 0 (fun _ => true) true fuel 22 cs = some x) :
    ∃ v l, cs = [v] ∧ OpsIn W v l := by
  rcases open_slice Try.underlying22 h with ⟨h0, hx⟩ | ⟨a, len, cap, m, n, D, Pl, hcs, hb, hl, hm, hmm, hx, hel⟩
  · exact ⟨_, [], h0, ReadsR.nil 5 W, by simp⟩
  · have hm' : m = cap := by simpa using hmm
    subst hm'
    have each : ∀ i, i < len → ∃ q : Oq, (∀ j y, (cellsO q)[j]? = some y → W.cell? (a.add (i * 5 + j)) = some y) ∧ ReadsJ W q.q.sl q.q.x.args ∧ q.q.x.ok := by
      intro i hi
      obtain ⟨cs', h1, h2⟩ := hel i (by omega)
      rw [show Try.prog.cellsOf 39 = 5 by kernel_rfl] at h1
      obtain ⟨_, hlen, hcell⟩ := World.cells?_some h1
      obtain ⟨q, rfl, hr, hk⟩ := open_op h2 (by simpa using hlen)
      refine ⟨q, fun j y hy => ?_, hr, hk⟩
      have hj := (List.getElem?_eq_some_iff.1 hy).1
      have := hcell j (by simpa [cellsO, cellsQ] using hj)
      rw [addr_add_add] at this
      rw [this]
      simp [hy]
    obtain ⟨f, hfp⟩ := choose_lt each
    have hll : ((List.range len).map f).length = len := by simp
    refine ⟨_, (List.range len).map f, hcs, ⟨some a, m, by rw [CO_length, hll], by rw [CO_length, hll]; omega, hm, by simp, fun hne => ?_⟩, ?_⟩
    · have hpos : 0 < len := by
        rcases Nat.eq_zero_or_pos len with h | h
        · subst h; simp [CO] at hne
        · exact h
      obtain ⟨b, o, spot⟩ := a
      have hc := (hfp 0 (by omega)).1 0 _ rfl
      have hspot : spot = none := by simpa [Addr.add] using World.cell?_spot hc
      subst hspot
      refine ⟨b, o, rfl, fun j r hr i y hy => ?_⟩
      have hr' : ((List.range len).map f).map cellsO = CO ((List.range len).map f) := rfl
      rw [← hr', List.getElem?_map, Option.map_eq_some_iff] at hr
      obtain ⟨p, hp, rfl⟩ := hr
      have hj : j < len := by
        have := (List.getElem?_eq_some_iff.1 hp).1
        simpa using this
      rw [List.getElem?_map, List.getElem?_range hj] at hp
      simp at hp
      subst hp
      have := (hfp j hj).1 i y hy
      rw [add_at] at this
      rw [Nat.add_assoc]
      exact this
    · intro x hx
      simp only [List.mem_map, List.mem_range] at hx
      obtain ⟨i, hi, rfl⟩ := hx
      exact (hfp i hi).2
section
variable {w : World}
/-- Calls of a size that is looked at. -/
def FewO (l : List Oq) : Prop := l.length ≤ 301 ∧ ∀ o ∈ l, o.q.x.fr.length ≤ 1000 ∧ o.q.x.args.length ≤ 1000
def FewOAt (l : List Oq) (w : World) (e : Ending) (w' : World) : Prop := ∃ b : Bool, e = .returned (.bool b) ∧ (b = true → FewO l) ∧ Kept [] w w'
theorem fewo_yes {l : List Oq} {w w' : World} (h : FewO l) (k : Kept [] w w') : FewOAt l w (.returned (.bool true)) w' := ⟨true, rfl, fun _ => h, k⟩
theorem fewo_no {l : List Oq} {w w' : World} (k : Kept [] w w') : FewOAt l w (.returned (.bool false)) w' := ⟨false, rfl, (fun h => Bool.noConfusion h), k⟩
set_option maxRecDepth 100000 in
set_option maxHeartbeats 1000000 in
theorem few9 {a : Option Addr} {n c : Nat} {l : List Oq} (hr : RowO w (.slice a n c) l) : Calls Try.prog 9 #[.slice a n c] w fun e w' => FewOAt l w e w' := by
  obtain ⟨hn, hc1, hc2⟩ := hr.bound
  have HN := Hid.mk hn
  have HR := Hid.mk hr
  clear hr hn
  have HY : Hid (∀ W, FewO l → Kept [] w W → FewOAt l w (.returned (.bool true)) W) := fun W => fewo_yes
  have HO : Hid (∀ W, Kept [] w W → FewOAt l w (.returned (.bool false)) W) := fun W => fewo_no
  generalize FewOAt l w = R at HY HO
  go_enter Try.func9, Try.ntmps9
  go_wp2_with fail
  go_loopw [6] (fun i wr => ∃ j : Nat, i = .int .i64 (j : Int) ∧ j ≤ n ∧ Hid (j ≤ 301 ∧ ∀ q ∈ l.take j, q.q.x.fr.length ≤ 1000 ∧ q.q.x.args.length ≤ 1000) ∧ Hid (w = wr)) (fun i _ => n - (intOf i).toNat)
  case atStart => exact ⟨0, rfl, by omega, Hid.mk ⟨by omega, by simp⟩, Hid.mk rfl⟩
  case round =>
    obtain ⟨j, rfl, hj, ht, kk⟩ := hrel
    obtain rfl := kk.out
    clear kk
    by_cases hlt : j < n
    · obtain ⟨q, hq⟩ : ∃ q, l[j]? = some q := ⟨_, List.getElem?_eq_getElem (by have := HN.out; omega)⟩
      obtain ⟨b, o, rfl, d0, d1, d2, d3, d4⟩ := HR.out.at hq
      have HQ := Hid.mk hq
      clear hq
      have hjI : (j : Int) < (n : Int) := by omega
      by_cases h1 : 1000 < q.q.x.fr.length
      · have g1 : (1000 : Int) < (q.q.x.fr.length : Int) := by omega
        go_wp2_with fail
        all_goals exact HO.out _ (Kept.refl [] _)
      · have g1 : ((1000 : Int) < (q.q.x.fr.length : Int)) = False := eq_false (by omega)
        by_cases h2 : 1000 < q.q.x.args.length
        · have g2 : (1000 : Int) < (q.q.x.args.length : Int) := by omega
          go_wp2_with fail
          exact HO.out _ (Kept.refl [] _)
        · have g2 : ((1000 : Int) < (q.q.x.args.length : Int)) = False := eq_false (by omega)
          by_cases h3 : 300 < j
          · have g3 : (300 : Int) < (j : Int) := by omega
            go_wp2_with fail
            exact HO.out _ (Kept.refl [] _)
          · have g3 : ((300 : Int) < (j : Int)) = False := eq_false (by omega)
            go_wp2_with fail
            go_roundw
            case rel =>
              refine ⟨j + 1, by go_num, by omega, Hid.mk ⟨by omega, fun y hy => ?_⟩, by trivial⟩
              rw [List.take_add_one, HQ.out] at hy
              rcases List.mem_append.1 hy with h | h
              · exact ht.out.2 y h
              · simp at h
                subst h
                exact ⟨by omega, by omega⟩
            case measure => simp [intOf]; omega
    · obtain rfl : j = n := by omega
      go_wp2
      refine HY.out _ ⟨?_, ?_⟩ (Kept.refl [] _)
      · have := ht.out.1
        have := HN.out
        omega
      · have := ht.out.2
        rwa [List.take_of_length_le (by rw [← HN.out]; exact Nat.le_refl _)] at this
set_option maxRecDepth 100000 in
set_option maxHeartbeats 1000000 in
theorem awake8 : Calls Try.prog 8 #[] w fun e w' => e = .returned (.bool true) ∧ Kept [] w w' := by
  go_enter Try.func8, Try.ntmps8
  go_wp2_with fail
  refine new10.mono ?_
  rintro e w1 ⟨rfl, hB1, k1, -⟩
  go_wp2_with fail
  refine (push11 ⟨[], 0, 3, []⟩ none 0 hB1 (ReadsJ.nil w1) ⟨by decide, by unfold I64; decide, by simp⟩).mono ?_
  rintro e w2 ⟨qs2, rfl, hB2, hq2, k2, -⟩
  have e2 : pushE ([] : List Lq).length ⟨[], 0, 3, []⟩ = 0 := by decide
  rw [e2]
  have hl2 : qs2.length = 1 := by
    have := congrArg List.length hq2
    rw [List.length_map] at this
    rw [this]
    rfl
  go_wp2_with fail
  refine (len21 hB2).mono ?_
  rintro e w3 ⟨rfl, rfl⟩
  rw [hl2]
  go_wp2_with fail
  go_ret
  exact ⟨rfl, k1.trans k2 (by simp)⟩
end
end Go.Proofs.Ytpcliempoagpoaa
