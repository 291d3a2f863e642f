import Derived.Deep.Slices
import Derived.ChangeArms
import Derived.OpenShut
import Derived.SizedLaws
import Derived.Test.YtpodoiichpnpjaaDoorQ06
import Derived.Test.YtpodoiichpnpjaaDoorQ09
import Derived.Test.YtpodoiichpnpjaaDoorQ28
import Derived.Test.YtpodoiichpnpjaaDoorQ31
/-
  awake, Few.
-/
namespace Go.Proofs.YtpodoiichpnpjaaDoor
open Go.RowKit
set_option maxRecDepth 100000
set_option linter.unusedVariables false
/-- What Few answers. -/
def FewAt (p : Pg) (e : Ending) : Prop := (e = .returned (.bool true) ∧ (∀ s ∈ p.names, s.length ≤ 1000) ∧ p.names.length ≤ 51 ∧ p.code.length ≤ 1000) ∨ e = .returned (.bool false)
section
variable {w : World}
set_option maxHeartbeats 1000000 in
theorem few9 {v u : Value} {p : Pg} (hP : IsP w v u p) (hK : ∀ s ∈ p.names, s.length ≤ 9223372036854775807) : Calls Tryd.prog 16 #[.agg #[v, u]] w fun e w' => FewAt p e ∧ Kept [] w w' := by
  obtain ⟨a, c, b, d, rfl, rfl, hl1, hl2⟩ := hP.form
  obtain ⟨W0, e0, k0, hz0, hb0⟩ := box1 w (.cells #[.slice a p.names.length c, .slice b p.code.length d] 25)
  obtain ⟨y0, y1⟩ := cells2 hb0
  have HP := Hid.mk (hP.keep k0)
  have HK0 := Hid.mk k0
  have HKn := Hid.mk hK
  clear hP k0 hb0 hz0 hK
  go_enter Tryd.func16, Tryd.ntmps16
  go_wp2_with fail
  generalize w.heap.size = g at *
  go_loopw [7] (fun i wr => ∃ j : Nat, i = .int .i64 (j : Int) ∧ j ≤ p.names.length ∧ j ≤ 51 ∧ Hid (W0 = wr) ∧ Hid (∀ i (hi : i < p.names.length), i < j → p.names[i].length ≤ 1000)) (fun i _ => p.names.length - (intOf i).toNat)
  case atStart => exact ⟨0, rfl, by omega, by omega, Hid.mk rfl, Hid.mk (fun _ _ h => by omega)⟩
  case round =>
    obtain ⟨j, rfl, hj, hj51, HW, HJ⟩ := hrel
    obtain rfl := HW.out
    clear HW
    by_cases hlt : j < p.names.length
    · obtain ⟨b1, o1, rfl, hc1⟩ := names_at HP.out.names hlt
      have hjI : (j : Int) < (p.names.length : Int) := by omega
      have hj0 : (0 : Int) ≤ (j : Int) := by omega
      have hz : (⟨p.names[j].toArray⟩ : ByteArray).size = p.names[j].length := by simp [ByteArray.size]
      have hm := HKn.out _ (List.getElem_mem hlt)
      have HT : Hid (p.names[j].length ≤ 1000 → ∀ i (hi : i < p.names.length), i < j + 1 → p.names[i].length ≤ 1000) := fun h i hi hij => by
        by_cases e : i = j
        · subst e; exact h
        · exact HJ.out i hi (by omega)
      clear HJ
      generalize p.names[j] = nm at *
      by_cases h1 : 1000 < nm.length
      · have h1I : (1000 : Int) < (nm.length : Int) := by omega
        go_wp2_with fail
        go_ret
        exact ⟨.inr rfl, HK0.out⟩
      · have h1I : ¬ (1000 : Int) < (nm.length : Int) := by omega
        by_cases h2 : 50 < j
        · have h2I : (50 : Int) < (j : Int) := by omega
          go_wp2_with fail
          go_ret
          exact ⟨.inr rfl, HK0.out⟩
        · have h2I : ¬ (50 : Int) < (j : Int) := by omega
          go_wp2_with fail
          go_roundw
          case rel => exact ⟨j + 1, by go_num, by omega, by omega, by trivial, Hid.mk (HT.out (by omega))⟩
          case measure => simp [intOf]; omega
    · have hje : ¬ (j : Int) < (p.names.length : Int) := by omega
      by_cases h3 : p.code.length ≤ 1000
      · have h3I : (p.code.length : Int) ≤ 1000 := by omega
        go_wp2_with fail
        go_ret
        refine ⟨.inl ⟨rfl, fun s hs => ?_, by omega, h3⟩, HK0.out⟩
        obtain ⟨i, hi, rfl⟩ := List.getElem_of_mem hs
        exact HJ.out i hi (by omega)
      · have h3I : ¬ (p.code.length : Int) ≤ 1000 := by omega
        go_wp2_with fail
        go_ret
        exact ⟨.inr rfl, HK0.out⟩
end
end Go.Proofs.YtpodoiichpnpjaaDoor
/-
  few: what is looked at.
-/
namespace Go.Proofs.YtpodoiichpnpjaaDoor
open Go.RowKit
set_option maxRecDepth 100000
set_option linter.unusedVariables false
/-- What few answers. -/
def FewL (p : Pg) (l : Lt) (e : Ending) : Prop := (e = .returned (.bool true) ∧ (∀ s ∈ p.names, s.length ≤ 1000) ∧ p.names.length ≤ 51 ∧ p.code.length ≤ 1000 ∧ l.args.length ≤ 1000 ∧ l.fr.length ≤ 1000) ∨ e = .returned (.bool false)
section
variable {w : World}
set_option maxHeartbeats 4000000 in
theorem few10 {v u : Value} {p : Pg} (hP : IsP w v u p) (hK : ∀ s ∈ p.names, s.length ≤ 9223372036854775807) (l : Lt) (a : Option Addr) (c : Nat) (hf : l.fr.length ≤ 9223372036854775807) (hl : l.args.length ≤ 9223372036854775807) : Calls Tryd.prog 10 #[.agg #[v, u], .agg #[.string ⟨l.fr.toArray⟩, .int .u64 (l.ser : Int), .int .i64 l.kind, .slice a l.args.length c]] w fun e w' => FewL p l e ∧ Kept [] w w' := by
  obtain ⟨W0, e0, k0, hz0, hb0, hb1⟩ := box2 w (.cells #[v, u] 25) (.cells #[.string ⟨l.fr.toArray⟩, .int .u64 (l.ser : Int), .int .i64 l.kind, .slice a l.args.length c] 30)
  obtain ⟨y0, y1⟩ := cells2 hb0
  have HC := Hid.mk (few9 (hP.keep k0) hK)
  have HK := Hid.mk k0
  have HB := Hid.mk hb1
  clear hb0 hb1 hP hK k0 hz0
  go_enter Tryd.func10, Tryd.ntmps10
  go_wp2_with fail
  refine HC.out.mono ?_
  rintro e w1 ⟨hf1, k1⟩
  have K1 := Hid.mk (HK.out.then k1)
  obtain ⟨x0, x1, x2, x3⟩ := cells4 (k1.keeps HB.out (by simp))
  clear k1
  rcases hf1 with ⟨rfl, r1, r2, r3⟩ | rfl
  · by_cases h1 : (l.args.length : Int) ≤ 1000
    · by_cases h2 : (l.fr.length : Int) ≤ 1000
      · have H3 : Hid (FewL p l (.returned (.bool true))) := .inl ⟨rfl, r1, r2, r3, by omega, by omega⟩
        clear r1
        go_wp2_with fail
        all_goals go_ret
        all_goals exact ⟨H3.out, K1.out⟩
      · have H3 : Hid (FewL p l (.returned (.bool (decide ((l.fr.length : Int) ≤ 1000))))) := by rw [decide_eq_false h2]; exact .inr rfl
        clear r1
        go_wp2_with fail
        all_goals go_ret
        all_goals exact ⟨H3.out, K1.out⟩
    · have H3 : Hid (FewL p l (.returned (.bool false))) := .inr rfl
      clear r1
      go_wp2_with fail
      all_goals go_ret
      all_goals exact ⟨H3.out, K1.out⟩
  · have H3 : Hid (FewL p l (.returned (.bool false))) := .inr rfl
    go_wp2_with fail
    all_goals go_ret
    all_goals exact ⟨H3.out, K1.out⟩
end
end Go.Proofs.YtpodoiichpnpjaaDoor
/-
  Programs that came in.
-/
namespace Go.Proofs.YtpodoiichpnpjaaDoor
set_option maxRecDepth 100000
open Go.RowKit Go.Deep Go.ChangeShapes
set_option linter.unusedVariables false
theorem open_instr {H : Type} {enc : TypeId × Value → H} {W : World} {fuel : Nat} {cs : List Value} {x : DataW H × List MemPlace} (h : DataW.trod enc Tryd.prog W 0 (fun _ => true) true fuel 75 cs = some x) (hl : cs.length = 2) :
    ∃ e : In, cs = [.int .i64 e.op, .int .i64 e.arg] ∧ I64 e.op ∧ I64 e.arg := by
  obtain ⟨xs, k, hk, hxy, _, hxl, hf⟩ := DataW.trod_struct Tryd.underlying75 h
  match xs, hxl, cs, hl with
  | [y0, y1], _, [v0, v1], _ =>
    have g0 := hf 0 _ rfl
    have g1 := hf 1 _ rfl
    simp [show Tryd.prog.cellsOf 3 = 1 by kernel_rfl, show Tryd.prog.cellsOf 2 = 1 by kernel_rfl] at g0 g1
    obtain ⟨a, e0, f0, w0⟩ := DataW.trod_int Tryd.underlying3 g0
    obtain ⟨b, e1, f1, w1⟩ := DataW.trod_int Tryd.underlying2 g1
    simp at e0 e1
    subst e0 e1
    exact ⟨⟨a, b⟩, rfl, bounds_i64 w0, bounds_i64 w1⟩
/-- A row of k cells an element that came in. -/
theorem open_row {α : Type} [Inhabited α] {H : Type} {enc : TypeId × Value → H} {W : World} {fuel : Nat} {cs : List Value} {x : DataW H × List MemPlace} {T e : TypeId} {k : Nat} (hT : Tryd.prog.underlying T = some (.slice e)) (hk : Tryd.prog.cellsOf e = k) (hk0 : 0 < k) (cellsA : α → List Value) (ok : α → Prop)
    (hlen : ∀ a, (cellsA a).length = k)
    (each1 : ∀ (n : Nat) (cs : List Value) (y : DataW H × List MemPlace), DataW.trod enc Tryd.prog W 0 (fun _ => true) true n e cs = some y → cs.length = k → ∃ a, cs = cellsA a ∧ ok a)
    (h : DataW.trod enc Tryd.prog W 0 (fun _ => true) true fuel T cs = some x) :
    ∃ (v : Value) (l : List α), cs = [v] ∧ ReadsR k W v (l.map cellsA) ∧ ∀ a ∈ l, ok a := by
  rcases open_slice hT h with ⟨h0, hx⟩ | ⟨a, len, cap, m, n, D, Pl, hcs, hb, hl, hm, hmm, hx, hel⟩
  · exact ⟨_, [], h0, ReadsR.nil k W, by simp⟩
  · have hm' : m = cap := by simpa using hmm
    subst hm'
    have each : ∀ i, i < len → ∃ q : α, (∀ j y, (cellsA q)[j]? = some y → W.cell? (a.add (i * k + j)) = some y) ∧ ok q := by
      intro i hi
      obtain ⟨cs', h1, h2⟩ := hel i (by omega)
      rw [hk] at h1
      obtain ⟨_, hlen', hcell⟩ := World.cells?_some h1
      obtain ⟨q, rfl, hok⟩ := each1 _ _ _ h2 (by simpa using hlen')
      refine ⟨q, fun j y hy => ?_, hok⟩
      have hj := (List.getElem?_eq_some_iff.1 hy).1
      have := hcell j (by rw [hlen] at hj; exact hj)
      rw [addr_add_add] at this
      rw [this]
      simp [hy]
    obtain ⟨f, hfp⟩ := choose_lt each
    have hll : ((List.range len).map f).length = len := by simp
    refine ⟨_, (List.range len).map f, hcs, ⟨some a, m, by rw [List.length_map, hll], by rw [List.length_map, hll]; omega, hm, by simp, fun hne => ?_⟩, ?_⟩
    · have hpos : 0 < len := by
        rcases Nat.eq_zero_or_pos len with h | h
        · subst h; simp at hne
        · exact h
      obtain ⟨b, o, spot⟩ := a
      have hq0 : ∃ y, (cellsA (f 0))[0]? = some y := ⟨(cellsA (f 0))[0]'(by rw [hlen]; exact hk0), by simp⟩
      obtain ⟨y, hy⟩ := hq0
      have hc := (hfp 0 (by omega)).1 0 y hy
      have hspot : spot = none := by simpa [Addr.add] using World.cell?_spot hc
      subst hspot
      refine ⟨b, o, rfl, fun j r hr i y hy => ?_⟩
      rw [List.getElem?_map, Option.map_eq_some_iff] at hr
      obtain ⟨p, hp, rfl⟩ := hr
      have hj : j < len := by
        have := (List.getElem?_eq_some_iff.1 hp).1
        simpa using this
      have hpf : p = f j := by
        rw [List.getElem?_map] at hp
        simp [hj] at hp
        exact hp.symm
      subst hpf
      have := (hfp j hj).1 i y hy
      rw [add_at] at this
      rw [Nat.add_assoc]
      exact this
    · intro q hq
      obtain ⟨i, hi, rfl⟩ := List.mem_map.1 hq
      exact (hfp i (by simpa using hi)).2
theorem size_list (s : ByteArray) : s.size = s.data.toList.length := by
  rw [Array.length_toList]
  rfl
/-- A program that came in. -/
structure PgIn (W : World) (v : Value) (p : Pg) : Prop where
  form : ∃ a b, v = .agg #[a, b] ∧ IsP W a b p
  names : ∀ s ∈ p.names, s.length ≤ 9223372036854775807
  code : ∀ x ∈ p.code, I64 x.op ∧ I64 x.arg
theorem open_prog {H : Type} {enc : TypeId × Value → H} {W : World} {fuel : Nat} {cs : List Value} {x : DataW H × List MemPlace} (h : DataW.trod enc Tryd.prog W 0 (fun _ => true) true fuel 25 cs = some x) :
    ∃ a b p, cs = [a, b] ∧ PgIn W (.agg #[a, b]) p := by
  obtain ⟨xs, k, hk, hxy, hcl, hxl, hf⟩ := DataW.trod_struct Tryd.underlying25 h
  have hc2 : cs.length = 2 := hcl.trans (show Tryd.prog.cellsOf 25 = 2 by kernel_rfl)
  match xs, hxl, cs, hc2 with
  | [y0, y1], _, [v0, v1], _ =>
    have g0 := hf 0 _ rfl
    have g1 := hf 1 _ rfl
    simp [show Tryd.prog.cellsOf 22 = 1 by kernel_rfl, show Tryd.prog.cellsOf 23 = 1 by kernel_rfl] at g0 g1
    obtain ⟨v, l, e0, r0, o0⟩ := open_row (α := List UInt8) Tryd.underlying22 (show Tryd.prog.cellsOf 9 = 1 by kernel_rfl) (by omega) (fun s => [.string ⟨s.toArray⟩]) (fun s => s.length ≤ 9223372036854775807) (fun _ => rfl) (fun n cs y hy hl => by
      obtain ⟨s, e, -, hs⟩ := DataW.trod_string Tryd.underlying9 hy
      refine ⟨s.data.toList, by rw [e], ?_⟩
      have : s.size = s.data.toList.length := size_list s
      rw [← this]
      exact Nat.le_trans hs (by decide)) g0
    obtain ⟨u, m, e1, r1, o1⟩ := open_row (α := In) Tryd.underlying23 (show Tryd.prog.cellsOf 75 = 2 by kernel_rfl) (by omega) (fun x => [.int .i64 x.op, .int .i64 x.arg]) (fun x => I64 x.op ∧ I64 x.arg) (fun _ => rfl) (fun n cs y hy hl => open_instr hy hl) g1
    simp at e0 e1
    subst e0 e1
    exact ⟨_, _, ⟨l, m⟩, rfl, ⟨⟨_, _, rfl, ⟨r0, r1⟩⟩, o0, o1⟩⟩
end Go.Proofs.YtpodoiichpnpjaaDoor
/-
  Letters and arrays that came in.
-/
namespace Go.Proofs.YtpodoiichpnpjaaDoor
set_option maxRecDepth 100000
open Go.RowKit Go.Deep Go.ChangeShapes
set_option linter.unusedVariables false
theorem okWide_arr {P : Program} {w : World} {r : Reach} {base : Nat} {t e : TypeId} {n : Nat} {v : Value} (ht : P.underlying t = some (.array n e)) (h : Value.okWide P w r base t v) : ∃ cs, v = .agg cs ∧ cs.size = P.cellsOf t := by
  simp only [Value.okWide, ht] at h
  obtain ⟨cs, h1, h2, _⟩ := h
  exact ⟨cs, h1, h2⟩
section
variable {H : Type} {enc : TypeId × Value → H} {W : World} {fuel : Nat} {cs : List Value} {x : DataW H × List MemPlace}
/-- An array of integers that came in. -/
theorem open_arr {t : TypeId} {n : Nat} (ht : Tryd.prog.underlying t = some (.array n 2)) (hc : Tryd.prog.cellsOf t = n) (h : DataW.trod enc Tryd.prog W 0 (fun _ => true) true fuel t cs = some x) : ∃ A : List Int, cs = BI A ∧ A.length = n ∧ ∀ z ∈ A, I64 z := by
  obtain ⟨xs, m, -, -, hl, hxl, hel⟩ := DataW.trod_array ht h
  rw [hc] at hl
  rw [show Tryd.prog.cellsOf 2 = 1 by kernel_rfl] at hel
  have each : ∀ i, i < n → ∃ z : Int, cs[i]? = some (.int .i64 z) ∧ I64 z := fun i hi => by
    have h1 := hel i hi
    rw [List.getElem?_eq_getElem (by omega)] at h1
    obtain ⟨z, e, -, hw⟩ := DataW.trod_int Tryd.underlying2 h1
    refine ⟨z, ?_, bounds_i64 hw⟩
    have := congrArg (·[0]?) e
    simpa [List.getElem?_drop] using this
  obtain ⟨f, hf⟩ := choose_lt each
  refine ⟨(List.range n).map f, ?_, by simp, fun z hz => ?_⟩
  · apply List.ext_getElem?
    intro i
    by_cases hi : i < n
    · rw [(hf i hi).1]
      simp [BI, hi]
    · rw [List.getElem?_eq_none (by omega), List.getElem?_eq_none (by simp [BI]; omega)]
  · obtain ⟨i, hi, rfl⟩ := List.mem_map.1 hz
    exact (hf i (by simpa using hi)).2
/-- A letter that came in. -/
structure LtIn (W : World) (v : Value) (l : Lt) : Prop where
  form : ∃ av, v = .agg #[.string ⟨l.fr.toArray⟩, .int .u64 (l.ser : Int), .int .i64 l.kind, av] ∧ ReadsR 1 W av (rowJ l.args)
  ok : l.ok
  fr : l.fr.length ≤ 9223372036854775807
theorem open_let (h : DataW.trod enc Tryd.prog W 0 (fun _ => true) true fuel 30 cs = some x) : ∃ (a b c d : Value) (l : Lt), cs = [a, b, c, d] ∧ LtIn W (.agg #[a, b, c, d]) l := by
  obtain ⟨xs, k, hk, hxy, hcl, hxl, hf⟩ := DataW.trod_struct Tryd.underlying30 h
  have hc4 : cs.length = 4 := hcl.trans (show Tryd.prog.cellsOf 30 = 4 by kernel_rfl)
  match xs, hxl, cs, hc4 with
  | [y0, y1, y2, y3], _, [v0, v1, v2, v3], _ =>
    have g0 := hf 0 _ rfl
    have g1 := hf 1 _ rfl
    have g2 := hf 2 _ rfl
    have g3 := hf 3 _ rfl
    simp [show Tryd.prog.cellsOf 9 = 1 by kernel_rfl, show Tryd.prog.cellsOf 27 = 1 by kernel_rfl, show Tryd.prog.cellsOf 2 = 1 by kernel_rfl, show Tryd.prog.cellsOf 28 = 1 by kernel_rfl] at g0 g1 g2 g3
    obtain ⟨s, e0, -, w0⟩ := DataW.trod_string Tryd.underlying9 g0
    obtain ⟨n, e1, -, w1⟩ := DataW.trod_int Tryd.underlying27 g1
    obtain ⟨kd, e2, -, w2⟩ := DataW.trod_int Tryd.underlying2 g2
    obtain ⟨v, l, e3, r3, o3⟩ := open_row (α := Int) Tryd.underlying28 (show Tryd.prog.cellsOf 2 = 1 by kernel_rfl) (by omega) (fun z => [.int .i64 z]) I64 (fun _ => rfl) (fun n cs y hy hl => by
      obtain ⟨z, e, -, hw⟩ := DataW.trod_int Tryd.underlying2 hy
      exact ⟨z, e, bounds_i64 hw⟩) g3
    simp at e0 e1 e2 e3
    subst e0 e1 e2 e3
    have b1 := bounds_u64 w1
    obtain ⟨m, rfl⟩ := Int.eq_ofNat_of_zero_le b1.1
    have hs : Value.string ⟨s.data.toList.toArray⟩ = .string s := by
      obtain ⟨d⟩ := s
      simp
    refine ⟨_, _, _, _, ⟨s.data.toList, m, kd, l⟩, rfl, ⟨_, ?_, r3⟩, ⟨by show m < 18446744073709551616; omega, bounds_i64 w2, o3⟩, ?_⟩
    · rw [hs]
    · have : s.size = s.data.toList.length := size_list s
      show s.data.toList.length ≤ _
      rw [← this]
      exact Nat.le_trans w0 (by decide)
end
end Go.Proofs.YtpodoiichpnpjaaDoor
/-
  A run of a program that came in: its result, written out.
-/
namespace Go.Proofs.YtpodoiichpnpjaaDoor
open Go.RowKit
set_option maxRecDepth 100000
set_option linter.unusedVariables false
/-- A result, written out. -/
structure Told8 (n : Nat) (w : World) (R : Rsl) (b0 b1 b2 b3 b4 b5 b6 b7 : Int) (ea : Option Addr) (ec : Nat) (sa : Option Addr) (sc : Nat) (ta : Option Addr) (tc : Nat) : Prop where
  reg : R.reg = [b0, b1, b2, b3, b4, b5, b6, b7]
  ev : ReadsR 2 w (.slice ea R.ev.length ec) (rowE R.ev)
  sn : ReadsR 3 w (.slice sa R.sent.length sc) (rowS R.sent)
  tm : ReadsR 5 w (.slice ta R.tm.length tc) (rowT R.tm)
  n1 : ∀ g, (Value.slice ea R.ev.length ec).ownBlock = some g → n ≤ g
  n2 : ∀ g, (Value.slice sa R.sent.length sc).ownBlock = some g → n ≤ g
  n3 : ∀ g, (Value.slice ta R.tm.length tc).ownBlock = some g → n ≤ g
abbrev Rval (R : Rsl) (b0 b1 b2 b3 b4 b5 b6 b7 : Int) (ea : Option Addr) (ec : Nat) (sa : Option Addr) (sc : Nat) (ta : Option Addr) (tc : Nat) : Value := .agg #[.int .i64 b0, .int .i64 b1, .int .i64 b2, .int .i64 b3, .int .i64 b4, .int .i64 b5, .int .i64 b6, .int .i64 b7, .slice ea R.ev.length ec, .slice sa R.sent.length sc, .slice ta R.tm.length tc, .int .i64 (R.k : Int)]
theorem told8_of {n : Nat} {w : World} {v : Value} {R : Rsl} (h : IsRs n w v R) : ∃ b0 b1 b2 b3 b4 b5 b6 b7 ea ec sa sc ta tc, v = Rval R b0 b1 b2 b3 b4 b5 b6 b7 ea ec sa sc ta tc ∧ Told8 n w R b0 b1 b2 b3 b4 b5 b6 b7 ea ec sa sc ta tc := by
  obtain ⟨⟨ev, sn, tm, rfl, h1, h2, h3, g1, g2, g3⟩, h8⟩ := h
  obtain ⟨b0, b1, b2, b3, b4, b5, b6, b7, hr⟩ := eight_of h8
  obtain ⟨ea, ec, rfl, -⟩ := h1.form
  obtain ⟨sa, sc, rfl, -⟩ := h2.form
  obtain ⟨ta, tc, rfl, -⟩ := h3.form
  rw [rowE_length] at *
  rw [rowS_length] at *
  rw [rowT_length] at *
  refine ⟨b0, b1, b2, b3, b4, b5, b6, b7, ea, ec, sa, sc, ta, tc, ?_, hr, h1, h2, h3, g1, g2, g3⟩
  rw [hr]
  rfl
/-- What a run tells, written out. -/
def RunT (w w' : World) (R : Rsl × Int) (e : Ending) : Prop := ∃ b0 b1 b2 b3 b4 b5 b6 b7 ea ec sa sc ta tc, e = .returned (.tuple #[Rval R.1 b0 b1 b2 b3 b4 b5 b6 b7 ea ec sa sc ta tc, .int .i64 R.2]) ∧ Told8 w.heap.size w' R.1 b0 b1 b2 b3 b4 b5 b6 b7 ea ec sa sc ta tc ∧ Kept [] w w'
theorem run11_told {w : World} {nv cv av : Value} {p : Pg} {reg : List Int} {l : Lt} {now : Int} (hG : Glob w) (hI : Ins w nv cv av p reg l now) : Calls Tryd.prog 11 #[.agg #[nv, cv], .agg (BI reg).toArray, Lval l av, .int .i64 now] w fun e w' => RunT w w' (resI p reg l now) e :=
  (run11 hG hI).mono fun e w' h => by
    obtain ⟨v, rfl, hR, k⟩ := h
    obtain ⟨b0, b1, b2, b3, b4, b5, b6, b7, ea, ec, sa, sc, ta, tc, rfl, ht⟩ := told8_of hR
    exact ⟨b0, b1, b2, b3, b4, b5, b6, b7, ea, ec, sa, sc, ta, tc, rfl, ht, k⟩
/-- Twelve cells. -/
theorem cells12 {w : World} {b : Nat} {v0 v1 v2 v3 v4 v5 v6 v7 v8 v9 v10 v11 : Value} {t : TypeId} (h : w.heap[b]? = some (.cells #[v0, v1, v2, v3, v4, v5, v6, v7, v8, v9, v10, v11] t (0, 0))) : w.cell? ⟨b, 0, none⟩ = some v0 ∧ w.cell? ⟨b, 1, none⟩ = some v1 ∧ w.cell? ⟨b, 2, none⟩ = some v2 ∧ w.cell? ⟨b, 3, none⟩ = some v3 ∧ w.cell? ⟨b, 4, none⟩ = some v4 ∧ w.cell? ⟨b, 5, none⟩ = some v5 ∧ w.cell? ⟨b, 6, none⟩ = some v6 ∧ w.cell? ⟨b, 7, none⟩ = some v7 ∧ w.cell? ⟨b, 8, none⟩ = some v8 ∧ w.cell? ⟨b, 9, none⟩ = some v9 ∧ w.cell? ⟨b, 10, none⟩ = some v10 ∧ w.cell? ⟨b, 11, none⟩ = some v11 := by simp [World.cell?, h]
theorem free12 {w : World} {b : Nat} {cs : Array Value} {t : TypeId} (h : w.heap[b]? = some (.cells cs t (0, 0))) : w.frozen? ⟨b, 0, none⟩ = false ∧ w.frozen? ⟨b, 1, none⟩ = false ∧ w.frozen? ⟨b, 2, none⟩ = false ∧ w.frozen? ⟨b, 3, none⟩ = false ∧ w.frozen? ⟨b, 4, none⟩ = false ∧ w.frozen? ⟨b, 5, none⟩ = false ∧ w.frozen? ⟨b, 6, none⟩ = false ∧ w.frozen? ⟨b, 7, none⟩ = false ∧ w.frozen? ⟨b, 8, none⟩ = false ∧ w.frozen? ⟨b, 9, none⟩ = false ∧ w.frozen? ⟨b, 10, none⟩ = false ∧ w.frozen? ⟨b, 11, none⟩ = false := by simp [World.frozen?, h]
end Go.Proofs.YtpodoiichpnpjaaDoor
