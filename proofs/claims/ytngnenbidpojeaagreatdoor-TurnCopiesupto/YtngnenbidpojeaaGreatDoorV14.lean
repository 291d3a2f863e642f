import Derived.Deep.RegionHeld3
import Derived.Test.YtngnenbidpojeaaGreatDoorV04
import Derived.Test.YtngnenbidpojeaaGreatDoorV08
import Derived.Test.YtngnenbidpojeaaGreatDoorV09
import Derived.Test.YtngnenbidpojeaaGreatDoorV11
import Derived.Test.YtngnenbidpojeaaGreatDoorV12
import Derived.Test.YtngnenbidpojeaaGreatDoorV13
/-
  The document's outbox: Send.
-/
namespace Go.Proofs.YtngnenbidpojeaaGreatDoor
set_option maxRecDepth 100000
open Go.RowKit
set_option linter.unusedVariables false
theorem rt71 : RowT 121 131 5 72 (.agg #[.string ⟨#[]⟩, .string ⟨#[]⟩, .int .u64 0, .int .i64 0, .slice none 0 0]) := ⟨Tryz.underlying121, by kernel_rfl, rfl, by omega, by omega⟩
theorem OwnY.app {w0 w : World} {v : Value} {qs : List Yq} (h : OwnY 131 w0 w v qs) (y : Yq) (hq : OwnsJ w y.q.sl y.q.x.args) (hf : Fresh w0 y.q.sl) (hs : w0.heap.size ≤ w.heap.size) (hn : qs.length ≤ 900000) : ∃ ad c w', (Builtin.append_ #[121, 121] 121 #[v, .slice (some ⟨w.heap.size, 0, none⟩) 1 1]).run Tryz.prog (w.alloc (.cells #[Sv y.to, Sv y.q.x.fr, .int .u64 (y.q.x.ser : Int), .int .i64 y.q.x.kind, y.q.sl] 131)) = .ok (.slice ad (qs.length + 1) c) w' ∧ OwnY 131 w0 w' (.slice ad (qs.length + 1) c) (qs ++ [y]) ∧ Kept v.ownBlock.toList w w' := by
  obtain ⟨ad, c, w', hrun, ho, k, hN⟩ := append_rowR rt71 h.own (cellsY y) rfl (fun u hu => by simp [cellsY] at hu; rcases hu with rfl | rfl | rfl | rfl | rfl <;> rfl) (by rw [CY_length]; exact hn) 131 (0, 0) 121
  rw [CY_length] at *
  refine ⟨ad, c, w', hrun, ⟨?_, fun z hz => ?_, fun g hg => ?_, fun z hz => ?_⟩, k⟩
  · rw [CY_append]; exact ho
  · have hz' : OwnsJ w z.q.sl z.q.x.args := by
      rcases List.mem_append.1 hz with hz | hz
      · exact h.args z hz
      · simp at hz; subst hz; exact hq
    exact hz'.kept k (fun g hg hm => by rw [Option.mem_toList] at hm; exact own_apart hz' h.own (by decide) hg hm)
  · rcases hN g hg with h1 | h1
    · exact h.fr g h1
    · omega
  · rcases List.mem_append.1 hz with hz | hz
    · exact h.fra z hz
    · simp at hz; subst hz; exact hf
theorem ownR_form {e : TypeId} {k : Nat} {w : World} {v : Value} {rs : List (List Value)} (h : OwnsR e k w v rs) : (v = .slice none 0 0 ∧ rs.length = 0) ∨ ∃ g cap cur, v = .slice (some ⟨g, 0, none⟩) rs.length cap ∧ w.heap[g]? = some (.cells cur e (0, 0)) := by
  rcases h.2 with ⟨rfl, h0⟩ | ⟨g1, cap, cur, rfl, _, hb, _⟩
  · exact .inl ⟨rfl, h0⟩
  · exact .inr ⟨g1, cap, cur, rfl, hb⟩
section
variable {w0 w w' : World} {p pf : Nat} {v u : Value} {own : List UInt8} {K : List La} {qs ms : List Yq}
theorem set65 (hF : IsF w0 w p v u own K ms) (hK : K.length ≤ 64) (hs0 : w0.heap.size ≤ w.heap.size) (to : List UInt8) (s : Nat) : Calls Tryz.prog 87 #[.pointer (some ⟨p, 0, none⟩), Sv to, Uv s] w fun e w' => e = .returned (.tuple #[]) ∧ ∃ u', IsF w0 w' p v u' own (setK K to s) ms ∧ Kept (footF p v u) w w' := by
  cases h : hasK K to with
  | true => exact set65_has hF hK to s h
  | false => exact set65_new hF hK hs0 to s h
theorem send29_arg (to : List UInt8) (kind : Int) (a : Option Addr) (n c : Nat) (pp : Option Addr) (hl : to.length ≤ 281474976710656) (hn : n ≤ 1000000) (h : isKey to = false ∨ 4 < n) :
    Calls Tryz.prog 27 #[.pointer pp, Sv to, .int .i64 kind, .slice a n c] w fun e w' => e = .returned (.tuple #[Uv 0, .int .i64 1]) ∧ w = w' := by
  have HK := Hid.mk (key28 (w := w) to hl)
  cases hk : isKey to with
  | false =>
    rw [hk] at HK
    clear h hk
    go_enter Tryz.func27, Tryz.ntmps27
    go_wp2_with fail
    refine HK.out.mono ?_
    rintro e w1 ⟨rfl, rfl⟩
    go_wp2_with fail
    go_ret2
    exact ⟨rfl, rfl⟩
  | true =>
    rw [hk] at HK h
    have g4 : (4 : Int) < (n : Int) := by rcases h with h | h; cases h; omega
    clear h hk
    go_enter Tryz.func27, Tryz.ntmps27
    go_wp2_with fail
    refine HK.out.mono ?_
    rintro e w1 ⟨rfl, rfl⟩
    go_wp2_with fail
    go_ret2
    exact ⟨rfl, rfl⟩
set_option maxHeartbeats 1000000 in
theorem send29_full (hF : IsF w0 w p v u own K ms) (hK : K.length ≤ 64) (hm : ms.length ≤ 32) (to : List UInt8) (kind : Int) (a : Option Addr) (n c : Nat) (hk : isKey to = true) (hn : n ≤ 4) (h : ms.length = 32 ∨ (hasK K to = false ∧ K.length = 64)) :
    Calls Tryz.prog 27 #[.pointer (some ⟨p, 0, none⟩), Sv to, .int .i64 kind, .slice a n c] w fun e w' => e = .returned (.tuple #[Uv 0, .int .i64 6]) ∧ w = w' := by
  have hkl := (isKey_iff to).1 hk
  have HK := Hid.mk (key28 (w := w) to (by omega))
  rw [hk] at HK
  obtain ⟨au, cu, rfl, hc1, hc2⟩ := rowK_form hF.krow
  obtain ⟨av, cv, rfl, hv1, hv2⟩ := rowY_form hF.ys.row
  obtain ⟨x0, x1, x2⟩ := cells3 hF.box
  have HT := Hid.mk (there53 x2 hF.krow to (by omega))
  have g4 : ((4 : Int) < (n : Int)) = False := eq_false (by omega)
  by_cases h32 : ms.length = 32
  · have g32 : (32 : Int) ≤ (ms.length : Int) := by omega
    clear h hF h32 hk hkl
    go_enter Tryz.func27, Tryz.ntmps27
    go_wp2_with fail
    refine HK.out.mono ?_
    rintro e w1 ⟨rfl, rfl⟩
    go_wp2_with fail
    go_ret2
    exact ⟨rfl, rfl⟩
  · have h2 : hasK K to = false ∧ K.length = 64 := by rcases h with h | h; exact absurd h h32; exact h
    rw [h2.1] at HT
    have g64 : (64 : Int) ≤ (K.length : Int) := by omega
    have g32 : ((32 : Int) ≤ (ms.length : Int)) = False := eq_false (by omega)
    clear h hF h32 hk hkl h2
    go_enter Tryz.func27, Tryz.ntmps27
    go_wp2_with fail
    refine HK.out.mono ?_
    rintro e w1 ⟨rfl, rfl⟩
    go_wp2_with fail
    refine HT.out.mono ?_
    rintro e w1 ⟨rfl, rfl⟩
    go_wp2_with fail
    go_ret2
    exact ⟨rfl, rfl⟩
set_option maxHeartbeats 2000000 in
theorem send29_ok (hF : IsF w0 w p v u own K ms) (hK : K.length ≤ 64) (hs0 : w0.heap.size ≤ w.heap.size) (to : List UInt8) (x : Lt) (a : Option Addr) (c : Nat) (hk : isKey to = true) (hn : x.args.length ≤ 4) (hx : ∀ W, Kept (footF p v u) w W → ReadsJ W (.slice a x.args.length c) x.args) (hfr : x.fr = own) (hser : x.ser = ser K to + 1) (h32 : ms.length < 32) (h64 : hasK K to = true ∨ K.length < 64) (hs : ser K to + 1 < 18446744073709551616) :
    Calls Tryz.prog 27 #[.pointer (some ⟨p, 0, none⟩), Sv to, .int .i64 x.kind, .slice a x.args.length c] w fun e w' => e = .returned (.tuple #[Uv (ser K to + 1), .int .i64 0]) ∧ ∃ v' u' a' c', IsF w0 w' p v' u' own (setK K to (ser K to + 1)) (ms ++ [⟨to, x, a', c'⟩]) ∧ Kept (footF p v u) w w' := by
  have hkl := (isKey_iff to).1 hk
  have HK := Hid.mk (key28 (w := w) to (by omega))
  rw [hk] at HK
  have HSET : Hid (∀ W, Kept [] w W → Calls Tryz.prog 87 #[.pointer (some ⟨p, 0, none⟩), Sv to, Uv x.ser] W fun e w' => e = .returned (.tuple #[]) ∧ ∃ u', IsF w0 w' p v u' own (setK K to x.ser) ms ∧ Kept (footF p v u) W w') := fun W k => set65 (hF.kept0 k) hK (by have := k.size; omega) to x.ser
  obtain ⟨au, cu, rfl, hc1, hc2⟩ := rowK_form hF.krow
  obtain ⟨av, cv, rfl, hv1, hv2⟩ := rowY_form hF.ys.row
  obtain ⟨x0, x1, x2⟩ := cells3 hF.box
  have HT := Hid.mk (there53 x2 hF.krow to (by omega))
  have HSR := Hid.mk (serial33 x2 hF.krow to (by omega))
  have g4 : ((4 : Int) < (x.args.length : Int)) = False := eq_false (by omega)
  have g32 : ((32 : Int) ≤ (ms.length : Int)) = False := eq_false (by omega)
  have HXP : Hid (∀ W, Kept (footF p (.slice av ms.length cv) (.slice au K.length cu)) w W → ReadsJ W (.slice a x.args.length c) x.args) := fun W k => hx W k
  have HSER := Hid.mk hser
  have HF := Hid.mk hF
  have hol : True := trivial
  have hSS : Hid (ser K to < 18446744073709551615) := Hid.mk (by omega)
  have g64 : hasK K to = false → ((64 : Int) ≤ (K.length : Int)) = False := fun h => eq_false (by rcases h64 with h' | h'; rw [h] at h'; cases h'; omega)
  rw [← hser]
  have hK2 : Hid (∃ K', setK K to x.ser = K') := ⟨_, rfl⟩
  obtain ⟨K', hK'⟩ := hK2.out
  rw [hK'] at HSET ⊢
  rw [← hfr] at HSET HF ⊢
  rw [← hfr] at x0
  have hsI : (ser K to : Int) + 1 = (x.ser : Int) := by rw [hser]; rfl
  have hs1 : (ser K to : Int) < 18446744073709551615 := by have := hSS.out; omega
  have g64 : Hid (hasK K to = false → ((64 : Int) ≤ (K.length : Int)) = False) := fun h => eq_false (by rcases h64 with h' | h'; rw [h] at h'; cases h'; omega)
  have HF0 := Hid.mk HF.out
  clear hF hk hkl hK' hK2 hx hfr hser h64 hs HSER hSS HF
  generalize ser K to = S at *
  generalize hasK K to = A at *
  have gg : A = true ∨ (A = false ∧ ((64 : Int) ≤ (K.length : Int)) = False) := by cases A; exact .inr ⟨rfl, g64.out rfl⟩; exact .inl rfl
  clear g64
  go_enter Tryz.func27, Tryz.ntmps27
  rcases gg with rfl | ⟨rfl, g64⟩
  all_goals
    go_wp2_with fail
    refine HK.out.mono ?_
    rintro e w1 ⟨rfl, rfl⟩
    go_wp2_with fail
    refine HT.out.mono ?_
    rintro e w1 ⟨rfl, rfl⟩
    go_wp2_with fail
    refine HSR.out.mono ?_
    rintro e w1 ⟨rfl, k1⟩
    go_wp2_with fail
    refine (HSET.out _ k1).mono ?_
    rintro e w3 ⟨rfl, u3, hF3, k3⟩
    have k03 : Kept (footF p (.slice av ms.length cv) (.slice au K.length cu)) w w3 := (k1.mono (by simp)).trans k3 (fun x hx => .inl hx)
    have kd := k03.drew
    have hFd := hF3.kept0 (Kept.refl [] w3).drew
    obtain ⟨y0, y1, y2⟩ := cells3 hFd.box
    have HC := Hid.mk (copy25 x a c (HXP.out _ kd) (by omega))
    have HFD := Hid.mk hFd
    have HKD := Hid.mk kd
    clear hFd hF3 k3 k03 kd x0 x1 x2
    go_wp2_with fail
    go_region_law (first | (refine step_append_run 121 (.tmp 51) (.tmp 63) (by rfl) (by rfl) _ _ (by rfl) (by rfl) hrun ?_) | ((try go_simp); go_at_call 79; refine HC.out.mono ?_; rintro e w5 ⟨a5, c5, rfl, hO5, k5, hf5⟩; obtain ⟨a6, c6, w6, hrun, hO6, k6⟩ := (HFD.out.ys.kept0 k5).app ⟨to, x, a5, c5⟩ hO5 (fun g hg => by have := hf5 g hg; have := HKD.out.size; omega) (by have := k5.size; have := HKD.out.size; omega) (by omega); have hF5 := HFD.out.kept0 k5; have h6 := k6.keeps hF5.box (by rw [Option.mem_toList]; exact ownsR_ne hF5.ys.own hF5.box (by decide)); obtain ⟨q0, q1, q2⟩ := cells3 h6; obtain ⟨qf0, qf1, qf2⟩ := free3 h6; have q5 := (cells3 hF5.box).2.1; have q6 := ((Kept.refl [] w5).alloc (.cells #[Sv to, Sv x.fr, .int .u64 (x.ser : Int), .int .i64 x.kind, .slice a5 x.args.length c5] 131)).cell_eq q5; clear hF5))
    all_goals
      have HR : Hid (IsF w0 (w6.setCell ⟨p, 1, none⟩ (.slice a6 (ms.length + 1) c6)) p (.slice a6 (ms.length + 1) c6) u3 x.fr K' (ms ++ [⟨to, x, a5, c5⟩]) ∧ Kept (footF p (.slice av ms.length cv) (.slice au K.length cu)) w (w6.setCell ⟨p, 1, none⟩ (.slice a6 (ms.length + 1) c6))) := by
        have kp := (Kept.refl [p] w6).setCell (p := ⟨p, 1, none⟩) (.inl (by simp)) (.slice a6 (ms.length + 1) c6)
        have hks := (HFD.out.ks.kept k5 (by simp)).kept k6 (fun g hg hm => by rw [Option.mem_toList] at hm; exact own_apart (HFD.out.kept0 k5).ks (HFD.out.kept0 k5).ys.own (by decide) hg hm)
        refine ⟨⟨set3_1 h6, hO6.kept kp (fun g hg => ?_), hks.kept kp (fun g hg hm => ?_), HFD.out.fru, HFD.out.fr⟩, ?_⟩
        · simp at hg
          subst hg
          exact ⟨ownsR_ne hO6.own h6 (by decide), fun q hq => ownsJ_ne (hO6.args q hq) h6 (by decide)⟩
        · simp at hm
          subst hm
          exact ownsR_ne hks h6 (by decide) hg
        · exact ((HKD.out.trans k5 (by simp)).trans k6 (fun y hy => .inl (mem_footF.2 (.inr (.inl (by rw [Option.mem_toList] at hy; exact hy)))))).setCell (p := ⟨p, 1, none⟩) (.inl (mem_footF.2 (.inl rfl))) _
      clear hO6 k6 h6 hO5 k5 hf5 q0 q1 q2 qf0 qf1 qf2 q5 q6 hrun
      go_wp2_with fail
      go_ret2
      exact ⟨rfl, _, _, _, _, HR.out⟩
end
end Go.Proofs.YtngnenbidpojeaaGreatDoor
/-
  The document's outbox: Pop, Keys.
-/
namespace Go.Proofs.YtngnenbidpojeaaGreatDoor
set_option maxRecDepth 100000
open Go.RowKit
set_option linter.unusedVariables false
section
variable {w0 w w' : World} {p pf : Nat} {v u : Value} {own : List UInt8} {K : List La} {qs ms : List Yq}
/-- Texts in rows of one cell each. -/
def CT (l : List (List UInt8)) : List (List Value) := l.map fun s => [Sv s]
end
end Go.Proofs.YtngnenbidpojeaaGreatDoor
/-
  Send of an outbox.
-/
namespace Go.Proofs.YtngnenbidpojeaaGreatDoor
set_option maxRecDepth 100000
open Go.RowKit
set_option linter.unusedVariables false
section
variable {w : World} {p : Nat} {own : List UInt8} {K : List La} {qs : List Yq}
/-- A Send that there can't be. -/
theorem send20_arg (to : List UInt8) (kind : Int) (a : Option Addr) (n c : Nat) (pp : Option Addr) (hl : to.length ≤ 281474976710656) (own : Bool) (hO : Calls Tryz.prog 80 #[.pointer pp] w fun e w' => e = .returned (.bool own) ∧ w = w') (hn : n ≤ 1000000) (h : own = false ∨ isKey to = false ∨ 4 < n) :
    Calls Tryz.prog 26 #[.pointer pp, Sv to, .int .i64 kind, .slice a n c] w fun e w' => e = .returned (.tuple #[Uv 0, .int .i64 1]) ∧ w = w' := by
  have HK := Hid.mk (isKey26 (w := w) to hl)
  have HO := Hid.mk hO
  clear hO
  cases own with
  | false =>
    go_enter Tryz.func26, Tryz.ntmps26
    go_wp2_with fail
    refine HO.out.mono ?_
    rintro e w1 ⟨rfl, rfl⟩
    go_wp2_with fail
    go_ret2
    exact ⟨rfl, rfl⟩
  | true =>
    cases hk : isKey to with
    | false =>
      rw [hk] at HK
      clear h hk
      go_enter Tryz.func26, Tryz.ntmps26
      go_wp2_with fail
      refine HO.out.mono ?_
      rintro e w1 ⟨rfl, rfl⟩
      go_wp2_with fail
      refine HK.out.mono ?_
      rintro e w1 ⟨rfl, rfl⟩
      go_wp2_with fail
      go_ret2
      exact ⟨rfl, rfl⟩
    | true =>
      rw [hk] at HK h
      have g4 : (4 : Int) < (n : Int) := by rcases h with h | h | h; cases h; cases h; omega
      clear h hk
      go_enter Tryz.func26, Tryz.ntmps26
      go_wp2_with fail
      refine HO.out.mono ?_
      rintro e w1 ⟨rfl, rfl⟩
      go_wp2_with fail
      refine HK.out.mono ?_
      rintro e w1 ⟨rfl, rfl⟩
      go_wp2_with fail
      go_ret2
      exact ⟨rfl, rfl⟩
set_option maxHeartbeats 1000000 in
/-- A Send that finds no room, or no serial. -/
theorem send20_full (hB : IsO w p own K qs) (hup : Rise K) (hne : own ≠ []) (to : List UInt8) (kind : Int) (a : Option Addr) (n c : Nat) (hk : isKey to = true) (hn : n ≤ 4) (h : qs.length = 32 ∨ (hasK K to = false ∧ K.length = 64)) :
    Calls Tryz.prog 26 #[.pointer (some ⟨p, 0, none⟩), Sv to, .int .i64 kind, .slice a n c] w fun e w' => e = .returned (.tuple #[Uv 0, .int .i64 6]) ∧ Kept [] w w' := by
  have hkl := (isKey_iff to).1 hk
  have HK := Hid.mk (isKey26 (w := w) to (by omega))
  have HO := Hid.mk (owned34 hB)
  have ho : (!own.isEmpty) = true := by cases own with | nil => exact absurd rfl hne | cons _ _ => rfl
  rw [ho] at HO
  rw [hk] at HK
  have hc := hB.count
  have hl := hB.ln
  have g4 : ((4 : Int) < (n : Int)) = False := eq_false (by omega)
  by_cases h32 : qs.length = 32
  · rw [h32] at hc
    have hc : w.cell? ⟨p, 290, none⟩ = some (.int .i64 32) := hc
    clear h hB h32 hk hkl hl
    go_enter Tryz.func26, Tryz.ntmps26
    go_wp2_with fail
    refine HO.out.mono ?_
    rintro e w1 ⟨rfl, rfl⟩
    go_wp2_with fail
    refine HK.out.mono ?_
    rintro e w1 ⟨rfl, rfl⟩
    go_wp2_with fail
    go_ret2
    exact ⟨rfl, Kept.refl [] _⟩
  · have h2 : hasK K to = false ∧ K.length = 64 := by rcases h with h | h; exact absurd h h32; exact h
    have HN := Hid.mk (hasNext58 hB hup to)
    rw [h2.1, h2.2] at HN
    have e : (if (false : Bool) = true then decide (ser K to < 18446744073709551615) else decide ((64 : Nat) < 64)) = false := by simp
    rw [e] at HN
    have g32 : ((qs.length : Int) == 32) = false := by simp; omega
    clear h hB h32 hk hkl hl h2 e
    go_enter Tryz.func26, Tryz.ntmps26
    go_wp2_with fail
    refine HO.out.mono ?_
    rintro e w1 ⟨rfl, rfl⟩
    go_wp2_with fail
    refine HK.out.mono ?_
    rintro e w1 ⟨rfl, rfl⟩
    go_wp2_with fail
    refine HN.out.mono ?_
    rintro e w1 ⟨rfl, k1⟩
    go_wp2_with fail
    go_ret2
    exact ⟨rfl, k1⟩
set_option maxHeartbeats 1000000 in
/-- A Send. -/
theorem send20_ok (hB : IsO w p own K qs) (hup : Rise K) (hne : own ≠ []) (hol : own.length ≤ 1000) (to : List UInt8) (x : Lt) (a : Option Addr) (c : Nat) (hk : isKey to = true) (hn : x.args.length ≤ 4) (hx : ∀ W, Kept [p] w W → ReadsJ W (.slice a x.args.length c) x.args) (hfr : x.fr = own) (hser : x.ser = ser K to + 1) (h32 : qs.length < 32) (h64 : hasK K to = true ∨ K.length < 64) (hs : ser K to + 1 < 18446744073709551616) :
    Calls Tryz.prog 26 #[.pointer (some ⟨p, 0, none⟩), Sv to, .int .i64 x.kind, .slice a x.args.length c] w fun e w' => e = .returned (.tuple #[Uv (ser K to + 1), .int .i64 0]) ∧ ∃ a' c', IsO w' p own (setK K to (ser K to + 1)) (qs ++ [⟨to, x, a', c'⟩]) ∧ Kept [p] w w' ∧ Fresh w (.slice a' x.args.length c') := by
  have hkl := (isKey_iff to).1 hk
  have HK := Hid.mk (isKey26 (w := w) to (by omega))
  have HO := Hid.mk (owned34 hB)
  have ho : (!own.isEmpty) = true := by cases own with | nil => exact absurd rfl hne | cons _ _ => rfl
  rw [ho] at HO
  rw [hk] at HK
  have hc := hB.count
  have g4 : ((4 : Int) < (x.args.length : Int)) = False := eq_false (by omega)
  have HN := Hid.mk (hasNext58 hB hup to)
  have e : (if hasK K to = true then decide (ser K to < 18446744073709551615) else decide (K.length < 64)) = true := by
    split
    · simp; omega
    · rename_i hno
      rcases h64 with h | h
      · exact absurd h hno
      · simpa using h
  rw [e] at HN
  have g32 : ((qs.length : Int) == 32) = false := by simp; omega
  have HX := Hid.mk hx
  have HC1 : Hid (∀ W, Calls Tryz.prog 83 #[Sv to] W fun e w' => e = .returned (Sv to) ∧ Kept [] W w') := fun W => clone32 to (by omega)
  have HNX : Hid (∀ W, Kept [] w W → Calls Tryz.prog 84 #[.pointer (some ⟨p, 0, none⟩), Sv to] W fun e w' => e = .returned (Uv (ser K to + 1)) ∧ IsO w' p own (setK K to (ser K to + 1)) qs ∧ Kept [p] W w') := fun W k => next59 (hB.kept0 k) hup to h64 hs
  have HBX : Hid (∃ cs1, w.heap[p]? = some (.cells cs1 168 (0, 0))) := by obtain ⟨cs1, hb1, -⟩ := hB.box; exact ⟨_, hb1⟩
  have hpl := hB.lt
  have HXP : Hid (∀ W, Kept [p] w W → ReadsJ W (.slice a x.args.length c) x.args) := fun W k => hx W k
  rw [← hser] at HNX ⊢
  rw [← hfr] at hol ⊢
  rw [← hfr] at HNX
  have HKS : Hid (∃ K', setK K to x.ser = K') := ⟨_, rfl⟩
  obtain ⟨K', hK'⟩ := HKS.out
  rw [hK'] at HNX ⊢
  clear hB hk hkl e hK' HKS hx hfr hser hup hne
  go_enter Tryz.func26, Tryz.ntmps26
  go_wp2_with fail
  refine HO.out.mono ?_
  rintro e w1 ⟨rfl, rfl⟩
  go_wp2_with fail
  refine HK.out.mono ?_
  rintro e w1 ⟨rfl, rfl⟩
  go_wp2_with fail
  refine HN.out.mono ?_
  rintro e w1 ⟨rfl, k1⟩
  go_wp2_with fail
  refine (HC1.out _).mono ?_
  rintro e w2 ⟨rfl, k2⟩
  have k02 := k1.trans k2 (by simp)
  go_wp2_with fail
  refine (HNX.out _ k02).mono ?_
  rintro e w3 ⟨rfl, hB3, k3⟩
  have c3 := hB3.owner
  have hp3 := hB3.lt
  have k03 : Kept [p] w w3 := (k02.mono (by simp)).trans k3 (by simp)
  go_wp2_with fail
  obtain ⟨W4, e4, k4, hz4, hb4⟩ := box1 w3 (.cells #[Sv x.fr, .int .u64 (x.ser : Int), .int .i64 x.kind, .slice a x.args.length c] 81)
  rw [e4]
  have k04 : Kept [p] w W4 := k03.trans k4 (by simp)
  have HC := Hid.mk (copy17 x a c (HXP.out _ k04) (by omega) (by omega))
  obtain ⟨y0, y1, y2, y3⟩ := cells4 hb4
  have HB4 := Hid.mk (hB3.kept0 k4)
  clear hB3 c3 e4
  refine HC.out.mono ?_
  rintro e w5 ⟨a5, c5, rfl, hO5, k5, hf5⟩
  have HP5 := Hid.mk (push60 ⟨to, x, a5, c5⟩ (HB4.out.kept0 k5) h32 hO5)
  go_wp2_with fail
  refine HP5.out.mono ?_
  rintro e w6 ⟨rfl, hB6, k6⟩
  go_wp2_with fail
  go_ret2
  refine ⟨rfl, a5, c5, hB6, (k04.trans k5 (by simp)).trans k6 (by simp), fun g hg => ?_⟩
  have := hf5 g hg
  have := k04.size
  omega
end
end Go.Proofs.YtngnenbidpojeaaGreatDoor
/-
  The program's outbox and the document's, side by side.
-/
namespace Go.Proofs.YtngnenbidpojeaaGreatDoor
set_option maxRecDepth 100000
open Go.RowKit
set_option linter.unusedVariables false
section
variable {w0 w w' : World} {p pf : Nat} {v u : Value} {own : List UInt8} {K : List La} {qs ms : List Yq}
end
section
variable {w0 w w' : World} {p pf : Nat} {o : Ob} {B : Nat}
theorem GoodO.ne (g : GoodO o) : o.own ≠ [] ∧ o.own.length ≤ 40 := by
  have := (isKey_iff _).1 g.own
  refine ⟨fun e => ?_, this.2⟩
  rw [e] at this
  simp at this
end
end Go.Proofs.YtngnenbidpojeaaGreatDoor
/-
  Unpack, and the document's.
-/
namespace Go.Proofs.YtngnenbidpojeaaGreatDoor
open Go.RowKit
set_option linter.unusedVariables false
/-- Letters in memory of their own: the slice v owns the letters qs, each one's Args are a row of its own; all of it new since w0. -/
structure OwnL (w0 w : World) (v : Value) (qs : List Lq) : Prop where
  own : OwnsR 81 4 w v (CQ qs)
  args : ∀ q ∈ qs, OwnsJ w q.sl q.x.args
  fr : Fresh w0 v
  fra : ∀ q ∈ qs, Fresh w0 q.sl
theorem OwnL.nil (w0 w : World) : OwnL w0 w (.slice none 0 0) [] := ⟨OwnsR.nil 81 4 w, by simp, fresh_nil w0 0, by simp⟩
theorem OwnL.kept {S : List Nat} {w0 w w' : World} {v : Value} {qs : List Lq} (h : OwnL w0 w v qs) (k : Kept S w w') (hS : ∀ y ∈ S, v.ownBlock ≠ some y ∧ ∀ q ∈ qs, q.sl.ownBlock ≠ some y) : OwnL w0 w' v qs :=
  ⟨h.own.kept k (fun g hg hm => (hS g hm).1 hg), fun q hq => (h.args q hq).kept k (fun g hg hm => (hS g hm).2 q hq hg), h.fr, h.fra⟩
theorem OwnL.kept0 {w0 w w' : World} {v : Value} {qs : List Lq} (h : OwnL w0 w v qs) (k : Kept [] w w') : OwnL w0 w' v qs := h.kept k (by simp)
theorem OwnL.row {w0 w : World} {v : Value} {qs : List Lq} (h : OwnL w0 w v qs) : RowQ w v qs := h.own.reads (CQ_wide qs)
theorem OwnL.vals {w0 w : World} {v : Value} {qs : List Lq} (h : OwnL w0 w v qs) : ValsQ w qs := fun q hq => (h.args q hq).reads
/-- 'append(v, letter)'. -/
theorem OwnL.app {w0 w : World} {v : Value} {qs : List Lq} (h : OwnL w0 w v qs) (q : Lq) (hq : OwnsJ w q.sl q.x.args) (hf : Fresh w0 q.sl) (hs : w0.heap.size ≤ w.heap.size) (hn : qs.length ≤ 900000) : ∃ ad c w', (Builtin.append_ #[26, 26] 26 #[v, .slice (some ⟨w.heap.size, 0, none⟩) 1 1]).run Tryz.prog (w.alloc (.cells #[Sv q.x.fr, .int .u64 (q.x.ser : Int), .int .i64 q.x.kind, q.sl] 81)) = .ok (.slice ad (qs.length + 1) c) w' ∧ OwnL w0 w' (.slice ad (qs.length + 1) c) (qs ++ [q]) ∧ Kept v.ownBlock.toList w w' := by
  obtain ⟨ad, c, w', hrun, ho, k, hN⟩ := append_rowR rt28 h.own (cellsQ q) rfl (fun u hu => by simp [cellsQ] at hu; rcases hu with rfl | rfl | rfl | rfl <;> rfl) (by rw [CQ_length]; exact hn) 81 (0, 0) 26
  rw [CQ_length] at *
  refine ⟨ad, c, w', hrun, ⟨?_, fun y hy => ?_, fun g hg => ?_, fun y hy => ?_⟩, k⟩
  · rw [CQ_append]; exact ho
  · have hy' : OwnsJ w y.sl y.x.args := by
      rcases List.mem_append.1 hy with hy | hy
      · exact h.args y hy
      · simp at hy; subst hy; exact hq
    exact hy'.kept k (fun g hg hm => by rw [Option.mem_toList] at hm; exact own_apart hy' h.own (by decide) hg hm)
  · rcases hN g hg with h1 | h1
    · exact h.fr g h1
    · omega
  · rcases List.mem_append.1 hy with hy | hy
    · exact h.fra y hy
    · simp at hy; subst hy; exact hf
theorem OwnL.elder {w0 w1 w : World} {v : Value} {qs : List Lq} (h : OwnL w1 w v qs) (hs : w0.heap.size ≤ w1.heap.size) : OwnL w0 w v qs :=
  ⟨h.own, h.args, fun g hg => Nat.le_trans hs (h.fr g hg), fun q hq g hg => Nat.le_trans hs (h.fra q hq g hg)⟩
/-- What Unpack answers. -/
def UnAt (w : World) (l : List UInt8) (e : Ending) (w' : World) : Prop :=
  ∃ (v : Value) (qs : List Lq), e = .returned (.tuple #[v, .int .i64 (if (decP l).isSome = true then 0 else 2)]) ∧ qs.map (·.x) = (decP l).getD [] ∧ OwnL w w' v qs ∧ Kept [] w w'
theorem unAt_none {w w' : World} {l : List UInt8} (h : decP l = none) (k : Kept [] w w') : UnAt w l (.returned (.tuple #[.slice none 0 0, .int .i64 2])) w' := by
  unfold UnAt
  rw [h]
  exact ⟨_, [], rfl, rfl, OwnL.nil w w', k⟩
theorem unAt_some {w w' : World} {l : List UInt8} {v : Value} {qs : List Lq} (h : decP l = some (qs.map (·.x))) (ho : OwnL w w' v qs) (k : Kept [] w w') : UnAt w l (.returned (.tuple #[v, .int .i64 0])) w' := by
  unfold UnAt
  rw [h]
  exact ⟨v, qs, rfl, rfl, ho, k⟩
section
variable {w : World}
set_option maxRecDepth 100000 in
set_option maxHeartbeats 1000000 in
theorem unpack22 (v : Value) (l : List UInt8) (hr : Reads w v l) (hl : l.length ≤ 3000000) : Calls Tryz.prog 119 #[v] w fun e w' => UnAt w l e w' := by
  go_enter Tryz.func119, Tryz.ntmps119
  go_wp2_with fail
  refine (newr_in v l w hr (by omega)).mono ?_
  rintro e w1 ⟨p, v1, rfl, hR1, k1, hf1, hp1, hin⟩
  go_wp2_with fail
  refine (rnum_any p v1 l false _ hR1).mono ?_
  rintro e w2 ⟨rfl, v2, hR2, k2, hV2⟩
  have hcn := rnum_lt l false
  have hrest := rnum_rest_I l false
  generalize hn : rnum l false = nr at hR2 hcn hrest
  have HN := Hid.mk hn
  clear hn
  go_wp2_with fail
  have k12 : Kept [] w w2 := k1.trans k2 (by simp; omega)
  have hp2 : p < w1.heap.size := hR1.lt
  have hz12 := k2.size
  have HIN : Hid (∀ g, v1.ownBlock = some g → g < w1.heap.size) := hin
  have HS : Hid (w.heap.size ≤ w1.heap.size) := k1.size
  clear hin k1 k2 hR1 hf1
  go_loopw [6, 14] (fun u i wr => ∃ (j : Nat) (qs : List Lq) (vi : Value) (r : List UInt8) (b : Bool), i = .int .u64 (j : Int) ∧ j ≤ nr.1 ∧ Hid (rlN_I j nr.2.1 nr.2.2 = some (qs.map (·.x), r, b)) ∧ Hid (IsR 212 wr p vi r b) ∧ Hid (Within v1 vi) ∧ Hid (OwnL w1 wr u qs) ∧ Hid (Kept [] w wr) ∧ Hid (w1.heap.size ≤ wr.heap.size)) (fun _ i _ => nr.1 - (intOf i).toNat)
  case atStart => exact ⟨0, [], v2, nr.2.1, nr.2.2, rfl, by omega, Hid.mk rfl, Hid.mk hR2, Hid.mk hV2, Hid.mk (OwnL.nil w1 w2), Hid.mk k12, Hid.mk hz12⟩
  case round =>
    obtain ⟨j, qs, vi, r, b, rfl, hj, hrl, hR, hV, hO, kk, hz⟩ := hrel
    by_cases hlt : j < nr.1
    · have hjI : (j : Int) < (nr.1 : Int) := by omega
      go_wp2_with fail
      refine (read34 p vi r b hR.out (fun g hg => by have := HIN.out g (hV.out g hg); have := hz.out; omega)).mono ?_
      rintro e w3 ⟨x, ax, cx, rfl, hx, hOx, hFx, v3, hR3, k3, hV3⟩
      have hO3 : OwnL w1 w3 _ qs := hO.out.kept k3 (fun y hy => by
        simp at hy
        subst hy
        exact ⟨fun h => by have := hO.out.fr y h; omega, fun q hq h => by have := hO.out.fra q hq y h; omega⟩)
      have k03 : Kept [] w w3 := kk.out.trans k3 (by simp; omega)
      have hz3 : w1.heap.size ≤ w3.heap.size := by have := hz.out; have := k3.size; omega
      cases hrx : (rlet r b).1 with
      | none =>
        have hN : decP l = none := by
          unfold decP
          rw [HN.out, rlN_stop (rlN_none hrl.out hrx) nr.1 (by omega)]
          rfl
        dsimp only [Option.isSome]
        clear hx hrx
        go_wp2_with fail
        go_ret2
        exact unAt_none hN (k03.alloc _)
      | some y =>
        obtain rfl := hx y hrx
        have hrn := rlN_next hrl.out hrx
        have hlen := rlN_len hrn
        dsimp only [Option.isSome]
        have HX := Hid.mk hrn
        clear hx hrx hrn
        obtain ⟨W3, e3, kW3, hzW3, hb3⟩ := box1 w3 (.cells #[Sv x.fr, .int .u64 (x.ser : Int), .int .i64 x.kind, .slice ax x.args.length cx] 81)
        have hql : qs.length = j := by have := (rlN_fwd j hrl.out).1; simpa using this
        obtain ⟨ad, c4, w4, hrun, hO4, k4⟩ := (hO3.kept0 kW3).app ⟨x, ax, cx⟩ (hOx.kept kW3 (by simp)) (fun g hg => by have := hFx g hg; have := hz.out; omega) (by omega) (by omega)
        rw [hzW3, ← e3] at hrun
        have k04 : Kept [] w w4 := (k03.trans kW3 (by simp)).trans k4 (fun y hy => by
          rw [Option.mem_toList] at hy
          have := hO.out.fr y hy
          have := HS.out
          exact .inr (by omega))
        have hR4 : IsR 212 w4 p v3 _ _ := (hR3.kept kW3 (by simp) (by simp)).kept k4 (fun hm => by
          rw [Option.mem_toList] at hm
          have := hO.out.fr p hm; omega) (fun g hg hm => by
          rw [Option.mem_toList] at hm
          have := hO.out.fr g hm
          have := HIN.out g (hV.out g (hV3 g hg))
          omega)
        have H4 : Hid (Kept [] w w4 ∧ IsR 212 w4 p v3 (rlet r b).2.1 (rlet r b).2.2 ∧ OwnL w1 w4 (.slice ad (qs.length + 1) c4) (qs ++ [⟨x, ax, cx⟩]) ∧ w1.heap.size ≤ w4.heap.size) := ⟨k04, hR4, hO4, by have := k4.size; omega⟩
        have HV4 : Hid (Within v1 v3) := hV.out.trans hV3
        clear e3 kW3 hzW3 hb3 hO4 k4 k04 hR4 hO3 hOx hFx hR3 k3 hV3 hql
        go_wp2_with (at_builtin; refine wpList_append_run 26 26 _ _ rfl (by rfl) _ _ rfl rfl _ _ hrun ?_)
        go_roundw
        case rel =>
          refine ⟨j + 1, qs ++ [⟨x, ax, cx⟩], v3, (rlet r b).2.1, (rlet r b).2.2, by go_num, by omega, Hid.mk ?_, Hid.mk H4.out.2.1, HV4, Hid.mk H4.out.2.2.1, Hid.mk H4.out.1, Hid.mk H4.out.2.2.2⟩
          rw [HX.out]
          simp
        case measure => simp [intOf]; omega
    · obtain rfl : j = nr.1 := by omega
      have HD : Hid (decP l = if (!b && r.isEmpty) = true then some (qs.map (·.x)) else none) := by
        show _ = _
        unfold decP
        rw [HN.out, hrl.out]
        rfl
      go_wp2_with fail
      refine (end_any p vi r b _ hR.out).mono ?_
      rintro e w4 ⟨rfl, rfl⟩
      cases hq : (!b && r.isEmpty) with
      | false =>
        rw [hq] at HD
        clear hq
        go_wp2_with fail
        go_ret2
        exact unAt_none HD.out kk.out
      | true =>
        rw [hq] at HD
        clear hq
        go_wp2_with fail
        go_ret2
        exact unAt_some HD.out (hO.out.elder HS.out) kk.out
end
end Go.Proofs.YtngnenbidpojeaaGreatDoor
