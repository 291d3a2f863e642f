import Derived.Test.YtdadloaifebdiaaGreatQ05
import Derived.Test.YtdadloaifebdiaaGreatQ10
import Derived.Test.YtdadloaifebdiaaGreatQ11
import Derived.Test.YtdadloaifebdiaaGreatQ16
import Derived.Test.YtdadloaifebdiaaGreatQ19
/-
  The document's outbox: Pop, Keys.
-/
namespace Go.Proofs.YtdadloaifebdiaaGreat
set_option maxRecDepth 100000
open Go.RowKit
set_option linter.unusedVariables false
section
variable {w0 w w' : World} {p pf : Nat} {v u : Value} {own : List UInt8} {K : List La} {qs ms : List Yq}
theorem cutY {b o cv : Nat} {q : Yq} {t : List Yq} (h : ReadsR 5 w (.slice (some ⟨b, o, none⟩) (t.length + 1) cv) (CY (q :: t))) : ReadsR 5 w (.slice (if cv = 1 then some ⟨b, o, none⟩ else some ⟨b, o + 5, none⟩) t.length (cv - 1)) (CY t) := by
  obtain ⟨_, _, e, hb1, hb2⟩ := rowY_form h
  injection e with _ _ e
  subst e
  have := ReadsR.cut (k := 5) (i := 1) (j := t.length + 1) (m := cv) (by rw [CY_length]; rfl) h (by omega) (Nat.le_refl _) hb1 (Nat.le_refl _)
  have e : ((CY (q :: t)).take (t.length + 1)).drop 1 = CY t := by
    rw [List.take_of_length_le (by rw [CY_length]; simp)]
    rfl
  rw [e] at this
  unfold cutA at this
  rw [Option.map_some, add_at] at this
  exact this
/-- Texts in rows of one cell each. -/
def CT (l : List (List UInt8)) : List (List Value) := l.map fun s => [Sv s]
theorem CT_length (l : List (List UInt8)) : (CT l).length = l.length := by simp [CT]
theorem CT_append (a b : List (List UInt8)) : CT (a ++ b) = CT a ++ CT b := by simp [CT]
theorem CT_wide (l : List (List UInt8)) : Wide 1 (CT l) := fun r hr => by
  simp only [CT, List.mem_map] at hr
  obtain ⟨s, -, rfl⟩ := hr
  exact ⟨rfl, fun x hx => by simp at hx; subst hx; rfl⟩
theorem rt103 : RowT 36 9 1 16 (.string ⟨#[]⟩) := ⟨Tryz.underlying36, by kernel_rfl, rfl, by omega, by omega⟩
def keysL (K : List La) : List (List UInt8) := K.map (·.k)
set_option maxHeartbeats 1000000 in
theorem keys57 {a : Option Addr} {n c : Nat} (hb : w.cell? ⟨p, 2, none⟩ = some (.slice a n c)) (hr : ReadsR 2 w (.slice a n c) (CK K)) (hn : n ≤ 1000) : Calls Tryz.prog 41 #[.pointer (some ⟨p, 0, none⟩)] w fun e w' => ∃ v, e = .returned v ∧ OwnsR 9 1 w' v (CT (keysL K)) ∧ Kept [] w w' := by
  obtain ⟨a', c', e, h1, h2⟩ := rowK_form hr
  injection e with e1 e2 e3
  subst e1 e3
  have HN := Hid.mk e2
  have HR := Hid.mk hr
  have HB := Hid.mk hb
  clear hr e2 h1
  go_enter Tryz.func41, Tryz.ntmps41
  go_wp2_with fail
  go_loopw [3, 10] (fun x i wr => ∃ j : Nat, i = .int .i64 (j : Int) ∧ j ≤ n ∧ Hid (∃ K1 K2, K = K1 ++ K2 ∧ K1.length = j ∧ OwnsR 9 1 wr x (CT (keysL K1)) ∧ Fresh w x) ∧ Hid (Kept [] w wr)) (fun x i _ => n - (intOf i).toNat)
  case atStart => exact ⟨0, rfl, by omega, Hid.mk ⟨[], K, rfl, rfl, OwnsR.nil 9 1 _, fresh_nil _ _⟩, Hid.mk (Kept.refl [] _)⟩
  case round =>
    obtain ⟨j, rfl, hj, hO, hk⟩ := hrel
    obtain ⟨K1, K2, hKK, hK1, hO1, hf1⟩ := hO.out
    have k1 := hk.out
    by_cases hlt : j < n
    · obtain ⟨y, t, rfl⟩ : ∃ y t, K2 = y :: t := by
        cases K2 with
        | nil => have := HN.out; rw [hKK] at this; simp at this; omega
        | cons y t => exact ⟨y, t, rfl⟩
      have hy : K[j]? = some y := by rw [hKK, ← hK1]; simp
      obtain ⟨b, o, rfl, d0, d1⟩ := rowK_at (HR.out.kept k1 (by simp)) hy
      have hb' := k1.cell_eq HB.out
      obtain ⟨a2, c2, w2, hrun, hO2, k2, hN2⟩ := append_rowR rt103 hO1 [Sv y.k] rfl (fun x hx => by simp at hx; subst hx; rfl) (by rw [CT_length, keysL, List.length_map]; omega) 9 (0, 0) 36
      have hL : (CT (keysL K1)).length = j := by rw [CT_length, keysL, List.length_map]; exact hK1
      obtain ⟨ax, nx, cx, rfl⟩ : ∃ ax nx cx, u3 = .slice ax nx cx := by
        rcases ownR_form hO1 with ⟨rfl, -⟩ | ⟨g, cap, cur, rfl, -⟩
        · exact ⟨_, _, _, rfl⟩
        · exact ⟨_, _, _, rfl⟩
      have HO2 : Hid (∃ K1 K2, K = K1 ++ K2 ∧ K1.length = j + 1 ∧ OwnsR 9 1 w2 (.slice a2 ((CT (keysL K1)).length) c2) (CT (keysL K1)) ∧ Fresh w (.slice a2 ((CT (keysL K1)).length) c2)) := by
        refine ⟨K1 ++ [y], t, by rw [hKK]; simp, by simp [hK1], ?_, ?_⟩
        · have e : CT (keysL (K1 ++ [y])) = CT (keysL K1) ++ [[Sv y.k]] := by simp [CT, keysL]
          rw [e, List.length_append]
          exact hO2
        · have e : (CT (keysL (K1 ++ [y]))).length = (CT (keysL K1)).length + 1 := by simp [CT, keysL]
          rw [e]
          intro g hg
          rcases hN2 g hg with h | h
          · exact hf1 g h
          · have := k1.size; omega
      have HK2 : Hid (Kept [] w w2) := (k1.trans k2 (fun x hx => .inr (hf1 x (by rw [Option.mem_toList] at hx; exact hx))))
      have hjI : (j : Int) < (n : Int) := by omega
      rw [hL] at hrun
      have HL1 : Hid (∀ K1 K2 : List La, K = K1 ++ K2 → K1.length = j + 1 → (CT (keysL K1)).length = j + 1) := fun K1 K2 _ h => by rw [CT_length, keysL, List.length_map]; exact h
      clear hO hk hO1 hf1 k1 hO2 k2 hN2 hKK hK1 hL hy
      go_wp2_with (at_builtin; refine wpList_append_run 36 36 _ _ rfl (by rfl) _ _ rfl rfl _ _ hrun ?_)
      go_roundw
      case rel =>
        refine ⟨j + 1, by go_num, by omega, Hid.mk ?_, HK2⟩
        obtain ⟨K1, K2, h1, h2, h3, h4⟩ := HO2.out
        have := HL1.out K1 K2 h1 h2
        rw [this] at h3 h4
        exact ⟨K1, K2, h1, h2, h3, h4⟩
      case measure => simp [intOf]; omega
    · have hn0 : K2 = [] := by
        cases K2 with
        | nil => rfl
        | cons y t => have := HN.out; rw [hKK] at this; simp at this; omega
      subst hn0
      have HO3 : Hid (OwnsR 9 1 wr u3 (CT (keysL K))) := by rw [hKK, List.append_nil]; exact hO1
      clear hO hO1 hf1 hKK k1
      go_wp2_with fail
      go_ret
      exact ⟨_, rfl, HO3.out, hk.out⟩
end
end Go.Proofs.YtdadloaifebdiaaGreat
/-
  same: the program's outbox and the document's, held against each other.
-/
namespace Go.Proofs.YtdadloaifebdiaaGreat
set_option maxRecDepth 100000
open Go.RowKit
set_option linter.unusedVariables false
section
variable {w0 w w' : World} {p pf : Nat} {v u : Value} {own : List UInt8} {K : List La} {qs ms : List Yq}
theorem ot_eq {a b : Yq} (h : ot a = ot b) : a.to = b.to ∧ a.q.x = b.q.x := by simpa [ot] using h
theorem ot_at {l1 l2 : List Yq} (h : l1.map ot = l2.map ot) {j : Nat} {a : Yq} (ha : l1[j]? = some a) : ∃ b, l2[j]? = some b ∧ a.to = b.to ∧ a.q.x = b.q.x := by
  have := congrArg (·[j]?) h
  simp only [List.getElem?_map, ha, Option.map_some] at this
  obtain ⟨b, hb, e⟩ := Option.map_eq_some_iff.1 this.symm
  exact ⟨b, hb, ot_eq e.symm⟩
theorem Fitq.of {l1 l2 : List Yq} (h : l1.map ot = l2.map ot) (hf : Fitq l1) : Fitq l2 := fun b hb => by
  obtain ⟨j, hj⟩ := List.getElem?_of_mem hb
  obtain ⟨a, ha, e1, e2⟩ := ot_at h.symm hj
  have := hf a (List.mem_of_getElem? ha)
  rw [e1, e2]
  exact this
theorem len_of {l1 l2 : List Yq} (h : l1.map ot = l2.map ot) : l1.length = l2.length := by simpa using congrArg List.length h
theorem rowT_at {a : Option Addr} {n c : Nat} {l : List (List UInt8)} (h : ReadsR 1 w (.slice a n c) (CT l)) {j : Nat} {y : List UInt8} (hy : l[j]? = some y) : ∃ b o, a = some ⟨b, o, none⟩ ∧ w.cell? ⟨b, o + j, none⟩ = some (Sv y) := by
  obtain ⟨b, o, c', e, hc⟩ := ReadsR.at h j [Sv y] (by simp [CT, hy])
  injection e with e _ _
  have h0 := hc 0 _ rfl
  rw [Nat.mul_one, Nat.add_zero] at h0
  exact ⟨b, o, e, h0⟩
theorem keys_at {j : Nat} {z : La} (hz : K[j]? = some z) : (keysL K)[j]? = some z.k := by simp [keysL, hz]
end
end Go.Proofs.YtdadloaifebdiaaGreat
/-
  Send of an outbox.
-/
namespace Go.Proofs.YtdadloaifebdiaaGreat
set_option maxRecDepth 100000
open Go.RowKit
set_option linter.unusedVariables false
section
variable {w : World} {p : Nat} {own : List UInt8} {K : List La} {qs : List Yq}
/-- A Send that there can't be. -/
theorem send20_arg (to : List UInt8) (kind : Int) (a : Option Addr) (n c : Nat) (pp : Option Addr) (hl : to.length ≤ 281474976710656) (own : Bool) (hO : Calls Tryz.prog 90 #[.pointer pp] w fun e w' => e = .returned (.bool own) ∧ w = w') (hn : n ≤ 1000000) (h : own = false ∨ isKey to = false ∨ 4 < n) :
    Calls Tryz.prog 53 #[.pointer pp, Sv to, .int .i64 kind, .slice a n c] w fun e w' => e = .returned (.tuple #[Uv 0, .int .i64 1]) ∧ w = w' := by
  have HK := Hid.mk (isKey26 (w := w) to hl)
  have HO := Hid.mk hO
  clear hO
  cases own with
  | false =>
    go_enter Tryz.func53, Tryz.ntmps53
    go_wp2_with fail
    refine HO.out.mono ?_
    rintro e w1 ⟨rfl, rfl⟩
    go_wp2_with fail
    go_ret2
    exact ⟨rfl, rfl⟩
  | true =>
    cases hk : isKey to with
    | false =>
      rw [hk] at HK
      clear h hk
      go_enter Tryz.func53, Tryz.ntmps53
      go_wp2_with fail
      refine HO.out.mono ?_
      rintro e w1 ⟨rfl, rfl⟩
      go_wp2_with fail
      refine HK.out.mono ?_
      rintro e w1 ⟨rfl, rfl⟩
      go_wp2_with fail
      go_ret2
      exact ⟨rfl, rfl⟩
    | true =>
      rw [hk] at HK h
      have g4 : (4 : Int) < (n : Int) := by rcases h with h | h | h; cases h; cases h; omega
      clear h hk
      go_enter Tryz.func53, Tryz.ntmps53
      go_wp2_with fail
      refine HO.out.mono ?_
      rintro e w1 ⟨rfl, rfl⟩
      go_wp2_with fail
      refine HK.out.mono ?_
      rintro e w1 ⟨rfl, rfl⟩
      go_wp2_with fail
      go_ret2
      exact ⟨rfl, rfl⟩
set_option maxHeartbeats 1000000 in
/-- A Send that finds no room, or no serial. -/
theorem send20_full (hB : IsO w p own K qs) (hup : Rise K) (hne : own ≠ []) (to : List UInt8) (kind : Int) (a : Option Addr) (n c : Nat) (hk : isKey to = true) (hn : n ≤ 4) (h : qs.length = 32 ∨ (hasK K to = false ∧ K.length = 64)) :
    Calls Tryz.prog 53 #[.pointer (some ⟨p, 0, none⟩), Sv to, .int .i64 kind, .slice a n c] w fun e w' => e = .returned (.tuple #[Uv 0, .int .i64 6]) ∧ Kept [] w w' := by
  have hkl := (isKey_iff to).1 hk
  have HK := Hid.mk (isKey26 (w := w) to (by omega))
  have HO := Hid.mk (owned34 hB)
  have ho : (!own.isEmpty) = true := by cases own with | nil => exact absurd rfl hne | cons _ _ => rfl
  rw [ho] at HO
  rw [hk] at HK
  have hc := hB.count
  have hl := hB.ln
  have g4 : ((4 : Int) < (n : Int)) = False := eq_false (by omega)
  by_cases h32 : qs.length = 32
  · rw [h32] at hc
    have hc : w.cell? ⟨p, 290, none⟩ = some (.int .i64 32) := hc
    clear h hB h32 hk hkl hl
    go_enter Tryz.func53, Tryz.ntmps53
    go_wp2_with fail
    refine HO.out.mono ?_
    rintro e w1 ⟨rfl, rfl⟩
    go_wp2_with fail
    refine HK.out.mono ?_
    rintro e w1 ⟨rfl, rfl⟩
    go_wp2_with fail
    go_ret2
    exact ⟨rfl, Kept.refl [] _⟩
  · have h2 : hasK K to = false ∧ K.length = 64 := by rcases h with h | h; exact absurd h h32; exact h
    have HN := Hid.mk (hasNext58 hB hup to)
    rw [h2.1, h2.2] at HN
    have e : (if (false : Bool) = true then decide (ser K to < 18446744073709551615) else decide ((64 : Nat) < 64)) = false := by simp
    rw [e] at HN
    have g32 : ((qs.length : Int) == 32) = false := by simp; omega
    clear h hB h32 hk hkl hl h2 e
    go_enter Tryz.func53, Tryz.ntmps53
    go_wp2_with fail
    refine HO.out.mono ?_
    rintro e w1 ⟨rfl, rfl⟩
    go_wp2_with fail
    refine HK.out.mono ?_
    rintro e w1 ⟨rfl, rfl⟩
    go_wp2_with fail
    refine HN.out.mono ?_
    rintro e w1 ⟨rfl, k1⟩
    go_wp2_with fail
    go_ret2
    exact ⟨rfl, k1⟩
set_option maxHeartbeats 1000000 in
/-- A Send. -/
theorem send20_ok (hB : IsO w p own K qs) (hup : Rise K) (hne : own ≠ []) (hol : own.length ≤ 1000) (to : List UInt8) (x : Lt) (a : Option Addr) (c : Nat) (hk : isKey to = true) (hn : x.args.length ≤ 4) (hx : ∀ W, Kept [p] w W → ReadsJ W (.slice a x.args.length c) x.args) (hfr : x.fr = own) (hser : x.ser = ser K to + 1) (h32 : qs.length < 32) (h64 : hasK K to = true ∨ K.length < 64) (hs : ser K to + 1 < 18446744073709551616) :
    Calls Tryz.prog 53 #[.pointer (some ⟨p, 0, none⟩), Sv to, .int .i64 x.kind, .slice a x.args.length c] w fun e w' => e = .returned (.tuple #[Uv (ser K to + 1), .int .i64 0]) ∧ ∃ a' c', IsO w' p own (setK K to (ser K to + 1)) (qs ++ [⟨to, x, a', c'⟩]) ∧ Kept [p] w w' ∧ Fresh w (.slice a' x.args.length c') := by
  have hkl := (isKey_iff to).1 hk
  have HK := Hid.mk (isKey26 (w := w) to (by omega))
  have HO := Hid.mk (owned34 hB)
  have ho : (!own.isEmpty) = true := by cases own with | nil => exact absurd rfl hne | cons _ _ => rfl
  rw [ho] at HO
  rw [hk] at HK
  have hc := hB.count
  have g4 : ((4 : Int) < (x.args.length : Int)) = False := eq_false (by omega)
  have HN := Hid.mk (hasNext58 hB hup to)
  have e : (if hasK K to = true then decide (ser K to < 18446744073709551615) else decide (K.length < 64)) = true := by
    split
    · simp; omega
    · rename_i hno
      rcases h64 with h | h
      · exact absurd h hno
      · simpa using h
  rw [e] at HN
  have g32 : ((qs.length : Int) == 32) = false := by simp; omega
  have HX := Hid.mk hx
  have HC1 : Hid (∀ W, Calls Tryz.prog 101 #[Sv to] W fun e w' => e = .returned (Sv to) ∧ Kept [] W w') := fun W => clone32 to (by omega)
  have HNX : Hid (∀ W, Kept [] w W → Calls Tryz.prog 102 #[.pointer (some ⟨p, 0, none⟩), Sv to] W fun e w' => e = .returned (Uv (ser K to + 1)) ∧ IsO w' p own (setK K to (ser K to + 1)) qs ∧ Kept [p] W w') := fun W k => next59 (hB.kept0 k) hup to h64 hs
  have HBX : Hid (∃ cs1, w.heap[p]? = some (.cells cs1 159 (0, 0))) := by obtain ⟨cs1, hb1, -⟩ := hB.box; exact ⟨_, hb1⟩
  have hpl := hB.lt
  have HXP : Hid (∀ W, Kept [p] w W → ReadsJ W (.slice a x.args.length c) x.args) := fun W k => hx W k
  rw [← hser] at HNX ⊢
  rw [← hfr] at hol ⊢
  rw [← hfr] at HNX
  have HKS : Hid (∃ K', setK K to x.ser = K') := ⟨_, rfl⟩
  obtain ⟨K', hK'⟩ := HKS.out
  rw [hK'] at HNX ⊢
  clear hB hk hkl e hK' HKS hx hfr hser hup hne
  go_enter Tryz.func53, Tryz.ntmps53
  go_wp2_with fail
  refine HO.out.mono ?_
  rintro e w1 ⟨rfl, rfl⟩
  go_wp2_with fail
  refine HK.out.mono ?_
  rintro e w1 ⟨rfl, rfl⟩
  go_wp2_with fail
  refine HN.out.mono ?_
  rintro e w1 ⟨rfl, k1⟩
  go_wp2_with fail
  refine (HC1.out _).mono ?_
  rintro e w2 ⟨rfl, k2⟩
  have k02 := k1.trans k2 (by simp)
  go_wp2_with fail
  refine (HNX.out _ k02).mono ?_
  rintro e w3 ⟨rfl, hB3, k3⟩
  have c3 := hB3.owner
  have hp3 := hB3.lt
  have k03 : Kept [p] w w3 := (k02.mono (by simp)).trans k3 (by simp)
  go_wp2_with fail
  obtain ⟨W4, e4, k4, hz4, hb4⟩ := box1 w3 (.cells #[Sv x.fr, .int .u64 (x.ser : Int), .int .i64 x.kind, .slice a x.args.length c] 90)
  rw [e4]
  have k04 : Kept [p] w W4 := k03.trans k4 (by simp)
  have HC := Hid.mk (copy17 x a c (HXP.out _ k04) (by omega) (by omega))
  obtain ⟨y0, y1, y2, y3⟩ := cells4 hb4
  have HB4 := Hid.mk (hB3.kept0 k4)
  clear hB3 c3 e4
  refine HC.out.mono ?_
  rintro e w5 ⟨a5, c5, rfl, hO5, k5, hf5⟩
  have HP5 := Hid.mk (push60 ⟨to, x, a5, c5⟩ (HB4.out.kept0 k5) h32 hO5)
  go_wp2_with fail
  refine HP5.out.mono ?_
  rintro e w6 ⟨rfl, hB6, k6⟩
  go_wp2_with fail
  go_ret2
  refine ⟨rfl, a5, c5, hB6, (k04.trans k5 (by simp)).trans k6 (by simp), fun g hg => ?_⟩
  have := hf5 g hg
  have := k04.size
  omega
end
end Go.Proofs.YtdadloaifebdiaaGreat
/-
  The program's outbox and the document's, side by side.
-/
namespace Go.Proofs.YtdadloaifebdiaaGreat
set_option maxRecDepth 100000
open Go.RowKit
set_option linter.unusedVariables false
/-- What a call on an outbox may turn: blocks that are new since w0, of outboxes' own types. -/
def Turn (w0 w w' : World) : Prop := ∃ S, Kept S w w' ∧ ∀ g ∈ S, w0.heap.size ≤ g ∧ ∃ cs t, w.heap[g]? = some (.cells cs t (0, 0)) ∧ (t = 159 ∨ t = 83 ∨ t = 93 ∨ t = 136)
section
variable {w0 w w' : World} {p pf : Nat} {v u : Value} {own : List UInt8} {K : List La} {qs ms : List Yq}
theorem Turn.of0 (k : Kept [] w w') : Turn w0 w w' := ⟨[], k, by simp⟩
theorem Turn.kept0 (T : Turn w0 w w') (k : Kept [] w0 w) : Kept [] w0 w' := by
  obtain ⟨S, kS, hS⟩ := T
  exact k.trans kS (fun x hx => .inr (hS x hx).1)
theorem Turn.box (T : Turn w0 w w') {g : Nat} {cs : Array Value} {t : TypeId} (h : w.heap[g]? = some (.cells cs t (0, 0))) (ht : t ≠ 159 ∧ t ≠ 83 ∧ t ≠ 93 ∧ t ≠ 136) : w'.heap[g]? = some (.cells cs t (0, 0)) := by
  obtain ⟨S, kS, hS⟩ := T
  refine kS.keeps h (fun hm => ?_)
  obtain ⟨-, cs', t', h', ht'⟩ := hS g hm
  rw [h] at h'
  injection h' with h'
  injection h' with _ e
  subst e
  obtain ⟨a, b, c, d⟩ := ht
  rcases ht' with e | e | e | e
  · exact a e
  · exact b e
  · exact c e
  · exact d e
theorem Turn.ownsJ (T : Turn w0 w w') {x : Value} {l : List Int} (h : OwnsJ w x l) : OwnsJ w' x l := by
  obtain ⟨S, kS, hS⟩ := T
  refine h.kept kS (fun g hg hm => ?_)
  obtain ⟨-, cs', t', h', ht'⟩ := hS g hm
  exact ownsJ_ne h h' (by rcases ht' with rfl | rfl | rfl | rfl <;> decide) hg
theorem Turn.ofO (hB : IsO w p own K qs) (hp : w0.heap.size ≤ p) (k : Kept [p] w w') : Turn w0 w w' := by
  obtain ⟨cs, hb⟩ := hB.bx
  exact ⟨[p], k, fun g hg => by simp at hg; subst hg; exact ⟨hp, _, _, hb, .inl rfl⟩⟩
theorem Turn.ofF (hF : IsF w0 w pf v u own K ms) (k : Kept (footF pf v u) w w') : Turn w0 w w' := by
  refine ⟨_, k, fun g hg => ?_⟩
  rcases mem_footF.1 hg with h | h | h
  · subst h
    exact ⟨hF.fr, _, _, hF.box, .inr (.inl rfl)⟩
  · refine ⟨hF.ys.fr g h, ?_⟩
    rcases ownR_form hF.ys.own with ⟨rfl, -⟩ | ⟨g1, cap, cur, rfl, hb⟩
    · simp [Value.ownBlock] at h
    · simp [Value.ownBlock] at h
      subst h
      exact ⟨_, _, hb, .inr (.inr (.inl rfl))⟩
  · refine ⟨hF.fru g h, ?_⟩
    rcases ownR_form hF.ks with ⟨rfl, -⟩ | ⟨g1, cap, cur, rfl, hb⟩
    · simp [Value.ownBlock] at h
    · simp [Value.ownBlock] at h
      subst h
      exact ⟨_, _, hb, .inr (.inr (.inr rfl))⟩
end
/-- The program's outbox at p, the document's at pf: both are o; no serial above B. -/
structure Two (w0 w : World) (p pf : Nat) (o : Ob) (B : Nat) : Prop where
  isO : ∃ qs, IsO w p o.own o.K qs ∧ qs.map ot = o.L
  isF : ∃ v u ms, IsF w0 w pf v u o.own o.K ms ∧ ms.map ot = o.L
  hp : w0.heap.size ≤ p
  good : GoodO o
  bnd : ∀ y ∈ o.K, y.s ≤ B
section
variable {w0 w w' : World} {p pf : Nat} {o : Ob} {B : Nat}
theorem Two.kept0 (T : Two w0 w p pf o B) (k : Kept [] w w') : Two w0 w' p pf o B := by
  obtain ⟨⟨qs, hO, hq⟩, ⟨v, u, ms, hF, hm⟩, hp, g, b⟩ := T
  exact ⟨⟨qs, hO.kept0 k, hq⟩, ⟨v, u, ms, hF.kept0 k, hm⟩, hp, g, b⟩
theorem Two.mono {B' : Nat} (T : Two w0 w p pf o B) (h : B ≤ B') : Two w0 w p pf o B' := ⟨T.isO, T.isF, T.hp, T.good, fun y hy => Nat.le_trans (T.bnd y hy) h⟩
theorem GoodO.fit {qs : List Yq} (g : GoodO o) (h : qs.map ot = o.L) : Fitq qs := fun y hy => by
  have hm : ot y ∈ o.L := by rw [← h]; exact List.mem_map.2 ⟨y, hy, rfl⟩
  obtain ⟨h1, h2, h3, h4⟩ := g.lets _ hm
  obtain ⟨z, hz, e⟩ := (has_mem g.rise).1 h4
  have hk := (isKey_iff _).1 (g.key z hz).1
  have h2' : y.q.x.fr.length ≤ 40 ∧ y.q.x.args.length ≤ 4 := by have h3 := h2; simp only [ot, Lt.formed, Bool.and_eq_true] at h3; exact ⟨of_decide_eq_true h3.1, of_decide_eq_true h3.2⟩
  have e' : z.k = y.to := e
  rw [← e']
  omega
theorem GoodO.ne (g : GoodO o) : o.own ≠ [] ∧ o.own.length ≤ 40 := by
  have := (isKey_iff _).1 g.own
  refine ⟨fun e => ?_, this.2⟩
  rw [e] at this
  simp at this
theorem Two.serLe (T : Two w0 w p pf o B) (to : List UInt8) : ser o.K to ≤ B := by
  cases h : hasK o.K to with
  | false => rw [(has_not h).1]; omega
  | true =>
    obtain ⟨s, h1, h2⟩ := has_at h
    rw [h2]
    exact T.bnd _ (List.mem_of_getElem? h1)
theorem two_ser22 (T : Two w0 w p pf o B) (to : List UInt8) : Calls Tryz.prog 42 #[.pointer (some ⟨p, 0, none⟩), Sv to] w fun e w' => e = .returned (Uv (ser o.K to)) ∧ Kept [] w w' := by
  obtain ⟨⟨qs, hO, hq⟩, ⟨v, u, ms, hF, hm⟩, hp, g, b⟩ := T
  exact serial22 hO g.rise to
theorem two_ser33 (T : Two w0 w p pf o B) (to : List UInt8) : Calls Tryz.prog 43 #[.pointer (some ⟨pf, 0, none⟩), Sv to] w fun e w' => e = .returned (Uv (ser o.K to)) ∧ Kept [] w w' := by
  obtain ⟨⟨qs, hO, hq⟩, ⟨v, u, ms, hF, hm⟩, hp, g, b⟩ := T
  obtain ⟨a, c, rfl, -, -⟩ := rowK_form hF.krow
  exact serial33 (cells3 hF.box).2.2 hF.krow to (by have := g.kn; omega)
theorem two_send (T : Two w0 w p pf o B) (k0 : Kept [] w0 w) (to : List UInt8) (kind : Int) (args : List Int) (a : Option Addr) (c : Nat) (hx : ReadsJ w0 (.slice a args.length c) args) (hto : to.length ≤ 1000) (hn : args.length ≤ 1000) (hk : I64 kind) (ha : ∀ z ∈ args, I64 z) (hB : B < 4611686018427387904) :
    Calls Tryz.prog 53 #[.pointer (some ⟨p, 0, none⟩), Sv to, .int .i64 kind, .slice a args.length c] w fun e w1 => ∃ (s : Nat) (er : Int) (o' : Ob), e = .returned (.tuple #[Uv s, .int .i64 er]) ∧ Turn w0 w w1 ∧ ∀ W, Kept [] w1 W → Calls Tryz.prog 54 #[.pointer (some ⟨pf, 0, none⟩), Sv to, .int .i64 kind, .slice a args.length c] W fun e' w2 => e' = .returned (.tuple #[Uv s, .int .i64 er]) ∧ Turn w0 W w2 ∧ Two w0 w2 p pf o' (B + 1) := by
  have T0 := T
  obtain ⟨⟨qs, hO, hq⟩, ⟨v, u, ms, hF, hm⟩, hp, g, b⟩ := T
  have hown : (!o.own.isEmpty) = true := by have := g.ne.1; cases h : o.own with | nil => exact absurd h this | cons _ _ => rfl
  have hql : qs.length = o.L.length := by rw [← hq, List.length_map]
  have hml : ms.length = o.L.length := by rw [← hm, List.length_map]
  by_cases h1 : isKey to = false ∨ 4 < args.length
  · refine (send20_arg to kind a args.length c _ (by omega) true (by have := owned34 hO; rwa [hown] at this) (by omega) (.inr h1)).mono ?_
    rintro e w1 ⟨rfl, rfl⟩
    refine ⟨0, 1, o, rfl, .of0 (Kept.refl [] _), fun W kW => ?_⟩
    refine (send29_arg to kind a args.length c _ (by omega) (by omega) h1).mono ?_
    rintro e w2 ⟨rfl, rfl⟩
    exact ⟨rfl, .of0 (Kept.refl [] _), (T0.kept0 kW).mono (by omega)⟩
  · have hkey : isKey to = true := by cases h : isKey to with | true => rfl | false => exact absurd (.inl h) h1
    have h4 : args.length ≤ 4 := by have : ¬ 4 < args.length := fun h => h1 (.inr h); omega
    by_cases h2 : o.L.length = 32 ∨ (hasK o.K to = false ∧ o.K.length = 64)
    · refine (send20_full hO g.rise g.ne.1 to kind a args.length c hkey h4 (by rw [hql]; exact h2)).mono ?_
      rintro e w1 ⟨rfl, k1⟩
      refine ⟨0, 6, o, rfl, .of0 k1, fun W kW => ?_⟩
      have kk := k1.trans kW (by simp)
      refine (send29_full (hF.kept0 kk) g.kn (by have := g.ln; omega) to kind a args.length c hkey h4 (by rw [hml]; exact h2)).mono ?_
      rintro e w2 ⟨rfl, rfl⟩
      exact ⟨rfl, .of0 (Kept.refl [] _), (T0.kept0 kk).mono (by omega)⟩
    · have h32 : o.L.length < 32 := by have := g.ln; have : o.L.length ≠ 32 := fun h => h2 (.inl h); omega
      have h64 : hasK o.K to = true ∨ o.K.length < 64 := by
        cases h : hasK o.K to with
        | true => exact .inl rfl
        | false => right; have := g.kn; have : o.K.length ≠ 64 := fun h' => h2 (.inr ⟨h, h'⟩); omega
      have hs := T0.serLe to
      refine (send20_ok hO g.rise g.ne.1 (by have := g.ne.2; omega) to ⟨o.own, ser o.K to + 1, kind, args⟩ a c hkey h4 (fun W kW => hx.kept ((k0.trans kW (fun x hx => .inr (by simp at hx; subst hx; exact hp)))) (by simp)) rfl rfl (by omega) h64 (by omega)).mono ?_
      rintro e w1 ⟨rfl, a1, c1, hO1, k1, hf1⟩
      refine ⟨ser o.K to + 1, 0, sendO o to kind args, rfl, .ofO hO hp k1, fun W kW => ?_⟩
      have hF1 := (hF.besides hO k1).kept0 kW
      have hOW := hO1.kept0 kW
      have kw0 : Kept [] w0 W := ((Turn.ofO hO hp k1).kept0 k0).trans kW (by simp)
      refine (send29_ok hF1 g.kn kw0.size to ⟨o.own, ser o.K to + 1, kind, args⟩ a c hkey h4 (fun W2 kW2 => hx.kept ((Turn.ofF hF1 kW2).kept0 kw0) (by simp)) rfl rfl (by omega) h64 (by omega)).mono ?_
      rintro e w2 ⟨rfl, v2, u2, a2, c2, hF2, k2⟩
      refine ⟨rfl, .ofF hF1 k2, ⟨⟨_, hOW.besides hF1 k2, ?_⟩, ⟨_, _, _, hF2, ?_⟩, hp, g.send hkey hk ha h4 h32 h64 (by show _ < _; omega), fun y hy => ?_⟩⟩
      · simp [sendO, hq, ot]
      · simp [sendO, hm, ot]
      · rcases setK_mem hy with rfl | hy
        · show ser o.K to + 1 ≤ _; omega
        · have := b y hy; omega
end
end Go.Proofs.YtdadloaifebdiaaGreat
/-
  SameAll: lists of letters that are held against each other.
-/
namespace Go.Proofs.YtdadloaifebdiaaGreat
open Go.RowKit
set_option linter.unusedVariables false
instance : DecidableEq Lt := fun x y => decidable_of_iff _ (sameL_iff x y)
section
variable {w : World}
set_option maxRecDepth 100000 in
set_option maxHeartbeats 1000000 in
theorem sameAll24 {a a' : Option Addr} {n n' c c' : Nat} {l m : List Lq} (hr : RowQ w (.slice a n c) l) (hv : ValsQ w l) (hr' : RowQ w (.slice a' n' c') m) (hv' : ValsQ w m) (hl : n ≤ 1000000) (hal : ∀ q ∈ l, q.x.args.length ≤ 1000000) :
    Calls Tryz.prog 38 #[.slice a n c, .slice a' n' c'] w fun e w' => e = .returned (.bool (decide (l.map (·.x) = m.map (·.x)))) ∧ Kept [] w w' := by
  obtain ⟨hn, hc1, hc2⟩ := hr.bound
  obtain ⟨hn', hc3, hc4⟩ := hr'.bound
  have HN := Hid.mk hn
  have HN' := Hid.mk hn'
  have HR := Hid.mk hr
  have HR' := Hid.mk hr'
  have HV := Hid.mk hv
  have HV' := Hid.mk hv'
  have HA := Hid.mk hal
  clear hn hn' hr hr' hv hv' hal
  generalize hD : decide (l.map (·.x) = m.map (·.x)) = D
  have HD := Hid.mk hD
  clear hD
  by_cases hlen : n = n'
  · subst hlen
    go_enter Tryz.func38, Tryz.ntmps38
    go_wp2_with fail
    go_loopw [13] (fun i wr => ∃ j : Nat, i = .int .i64 (j : Int) ∧ j ≤ n ∧ Hid ((l.take j).map (·.x) = (m.take j).map (·.x)) ∧ Hid (Kept [] w wr)) (fun i _ => n - (intOf i).toNat)
    case atStart => exact ⟨0, rfl, by omega, Hid.mk rfl, Hid.mk (Kept.refl [] w)⟩
    case round =>
      obtain ⟨j, rfl, hj, ht, kk⟩ := hrel
      by_cases hlt : j < n
      · obtain ⟨q, hq⟩ : ∃ q, l[j]? = some q := ⟨_, List.getElem?_eq_getElem (by have := HN.out; omega)⟩
        obtain ⟨q', hq'⟩ : ∃ q, m[j]? = some q := ⟨_, List.getElem?_eq_getElem (by have := HN'.out; omega)⟩
        have hjI : (j : Int) < (n : Int) := by omega
        have kd := kk.out.drew
        obtain ⟨b, o, rfl, d0, d1, d2, d3⟩ := (HR.out.kept kd (by simp)).at hq
        obtain ⟨b', o', rfl, e0, e1, e2, e3⟩ := (HR'.out.kept kd (by simp)).at hq'
        have S0 : wr.drew.cell? ⟨b, o + j * 4, none⟩ = some (Sv q.x.fr) ∧ wr.drew.cell? ⟨b, o + j * 4 + 1, none⟩ = some (.int .u64 (q.x.ser : Int)) ∧ wr.drew.cell? ⟨b, o + j * 4 + 2, none⟩ = some (.int .i64 q.x.kind) ∧ wr.drew.cell? ⟨b, o + j * 4 + 3, none⟩ = some (.slice q.ad q.x.args.length q.cap) ∧ wr.drew.cell? ⟨b', o' + j * 4, none⟩ = some (Sv q'.x.fr) ∧ wr.drew.cell? ⟨b', o' + j * 4 + 1, none⟩ = some (.int .u64 (q'.x.ser : Int)) ∧ wr.drew.cell? ⟨b', o' + j * 4 + 2, none⟩ = some (.int .i64 q'.x.kind) ∧ wr.drew.cell? ⟨b', o' + j * 4 + 3, none⟩ = some (.slice q'.ad q'.x.args.length q'.cap) := ⟨d0, d1, d2, d3, e0, e1, e2, e3⟩
        have HC : Hid (Calls Tryz.prog 92 #[Lv q.x q.ad q.cap, Lv q'.x q'.ad q'.cap] wr.drew fun e w' => e = .returned (.bool (sameL q.x q'.x)) ∧ Kept [] wr.drew w') := same16 q.x q'.x q.ad q'.ad q.cap q'.cap ((HV.out q (List.mem_of_getElem? hq)).kept kd (by simp)) ((HV'.out q' (List.mem_of_getElem? hq')).kept kd (by simp)) (by have := HA.out q (List.mem_of_getElem? hq); omega)
        have HQ := Hid.mk hq
        have HQ' := Hid.mk hq'
        have KD := Hid.mk kd
        have hsl := sameL_iff q.x q'.x
        have HSL := Hid.mk hsl
        clear hq hq' kd d0 d1 d2 d3 e0 e1 e2 e3 hsl
        cases hs : sameL q.x q'.x with
        | true =>
          rw [hs] at HC HSL
          clear hs
          go_wp2_with fail
          go_region_held3 (fun w' => w'.cell? ⟨b, o + j * 4, none⟩ = some (Sv q.x.fr) ∧ w'.cell? ⟨b, o + j * 4 + 1, none⟩ = some (.int .u64 (q.x.ser : Int)) ∧ w'.cell? ⟨b, o + j * 4 + 2, none⟩ = some (.int .i64 q.x.kind) ∧ w'.cell? ⟨b, o + j * 4 + 3, none⟩ = some (.slice q.ad q.x.args.length q.cap) ∧ w'.cell? ⟨b', o' + j * 4, none⟩ = some (Sv q'.x.fr) ∧ w'.cell? ⟨b', o' + j * 4 + 1, none⟩ = some (.int .u64 (q'.x.ser : Int)) ∧ w'.cell? ⟨b', o' + j * 4 + 2, none⟩ = some (.int .i64 q'.x.kind) ∧ w'.cell? ⟨b', o' + j * 4 + 3, none⟩ = some (.slice q'.ad q'.x.args.length q'.cap)) (first | exact S0 | exact S1) ((go_at_call 92; refine HC.out.mono ?_; rintro e w1 ⟨rfl, k1⟩; have S1 := (fun (k : Kept [] wr.drew w1) => (⟨k.cell_eq S0.1, k.cell_eq S0.2.1, k.cell_eq S0.2.2.1, k.cell_eq S0.2.2.2.1, k.cell_eq S0.2.2.2.2.1, k.cell_eq S0.2.2.2.2.2.1, k.cell_eq S0.2.2.2.2.2.2.1, k.cell_eq S0.2.2.2.2.2.2.2⟩ : w1.cell? ⟨b, o + j * 4, none⟩ = some (Sv q.x.fr) ∧ w1.cell? ⟨b, o + j * 4 + 1, none⟩ = some (.int .u64 (q.x.ser : Int)) ∧ w1.cell? ⟨b, o + j * 4 + 2, none⟩ = some (.int .i64 q.x.kind) ∧ w1.cell? ⟨b, o + j * 4 + 3, none⟩ = some (.slice q.ad q.x.args.length q.cap) ∧ w1.cell? ⟨b', o' + j * 4, none⟩ = some (Sv q'.x.fr) ∧ w1.cell? ⟨b', o' + j * 4 + 1, none⟩ = some (.int .u64 (q'.x.ser : Int)) ∧ w1.cell? ⟨b', o' + j * 4 + 2, none⟩ = some (.int .i64 q'.x.kind) ∧ w1.cell? ⟨b', o' + j * 4 + 3, none⟩ = some (.slice q'.ad q'.x.args.length q'.cap))) k1))
          clear S0 S1
          go_wp2
          go_roundw
          case rel =>
            refine ⟨j + 1, by go_num, by omega, Hid.mk ?_, Hid.mk (KD.out.trans k1 (by simp))⟩
            rw [List.take_add_one, List.take_add_one, HQ.out, HQ'.out, List.map_append, List.map_append, ht.out]
            have h := HSL.out
            simp at h
            simp [h]
          case measure => simp [intOf]; omega
        | false =>
          rw [hs] at HC HSL
          clear hs
          go_wp2_with fail
          go_region_held3 (fun w' => w'.cell? ⟨b, o + j * 4, none⟩ = some (Sv q.x.fr) ∧ w'.cell? ⟨b, o + j * 4 + 1, none⟩ = some (.int .u64 (q.x.ser : Int)) ∧ w'.cell? ⟨b, o + j * 4 + 2, none⟩ = some (.int .i64 q.x.kind) ∧ w'.cell? ⟨b, o + j * 4 + 3, none⟩ = some (.slice q.ad q.x.args.length q.cap) ∧ w'.cell? ⟨b', o' + j * 4, none⟩ = some (Sv q'.x.fr) ∧ w'.cell? ⟨b', o' + j * 4 + 1, none⟩ = some (.int .u64 (q'.x.ser : Int)) ∧ w'.cell? ⟨b', o' + j * 4 + 2, none⟩ = some (.int .i64 q'.x.kind) ∧ w'.cell? ⟨b', o' + j * 4 + 3, none⟩ = some (.slice q'.ad q'.x.args.length q'.cap)) (first | exact S0 | exact S1) ((go_at_call 92; refine HC.out.mono ?_; rintro e w1 ⟨rfl, k1⟩; have S1 := (fun (k : Kept [] wr.drew w1) => (⟨k.cell_eq S0.1, k.cell_eq S0.2.1, k.cell_eq S0.2.2.1, k.cell_eq S0.2.2.2.1, k.cell_eq S0.2.2.2.2.1, k.cell_eq S0.2.2.2.2.2.1, k.cell_eq S0.2.2.2.2.2.2.1, k.cell_eq S0.2.2.2.2.2.2.2⟩ : w1.cell? ⟨b, o + j * 4, none⟩ = some (Sv q.x.fr) ∧ w1.cell? ⟨b, o + j * 4 + 1, none⟩ = some (.int .u64 (q.x.ser : Int)) ∧ w1.cell? ⟨b, o + j * 4 + 2, none⟩ = some (.int .i64 q.x.kind) ∧ w1.cell? ⟨b, o + j * 4 + 3, none⟩ = some (.slice q.ad q.x.args.length q.cap) ∧ w1.cell? ⟨b', o' + j * 4, none⟩ = some (Sv q'.x.fr) ∧ w1.cell? ⟨b', o' + j * 4 + 1, none⟩ = some (.int .u64 (q'.x.ser : Int)) ∧ w1.cell? ⟨b', o' + j * 4 + 2, none⟩ = some (.int .i64 q'.x.kind) ∧ w1.cell? ⟨b', o' + j * 4 + 3, none⟩ = some (.slice q'.ad q'.x.args.length q'.cap))) k1))
          clear S0 S1
          go_wp2
          go_ret
          refine ⟨?_, KD.out.trans k1 (by simp)⟩
          have : D = false := by
            rw [← HD.out]
            simp only [decide_eq_false_iff_not]
            intro e
            have h := congrArg (fun z : List Lt => z[j]?) e
            simp only [List.getElem?_map, HQ.out, HQ'.out, Option.map_some, Option.some.injEq] at h
            exact absurd (HSL.out.2 h) (by simp)
          rw [this]
          rfl
      · obtain rfl : j = n := by omega
        go_wp2
        go_ret
        refine ⟨?_, kk.out⟩
        have : D = true := by
          rw [← HD.out]
          simp only [decide_eq_true_eq]
          have := ht.out
          rwa [List.take_of_length_le (by rw [← HN.out]; exact Nat.le_refl _), List.take_of_length_le (by rw [← HN'.out]; exact Nat.le_refl _)] at this
        rw [this]
        rfl
  · have : D = false := by
      rw [← HD.out]
      simp only [decide_eq_false_iff_not]
      intro e
      have := congrArg List.length e
      simp at this
      exact hlen (HN.out.trans (this.trans HN'.out.symm))
    subst this
    have h1 : ((n : Int) != (n' : Int)) = true := by simp; omega
    go_enter Tryz.func38, Tryz.ntmps38
    go_wp2_with fail
    go_ret
    exact ⟨rfl, Kept.refl [] w⟩
end
end Go.Proofs.YtdadloaifebdiaaGreat
