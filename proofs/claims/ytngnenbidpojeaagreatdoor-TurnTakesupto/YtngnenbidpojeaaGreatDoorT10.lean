import Derived.Laws.CopyRow
import Derived.Test.YtngnenbidpojeaaGreatDoorT03
import Derived.Test.YtngnenbidpojeaaGreatDoorT05
import Derived.Test.YtngnenbidpojeaaGreatDoorT06
import Derived.Test.YtngnenbidpojeaaGreatDoorT08
import Derived.Test.YtngnenbidpojeaaGreatDoorT09
/-
 Send of an outbox.
-/
namespace Go.Proofs.YtngnenbidpojeaaGreatDoor
set_option maxRecDepth 100000
open Go.RowKit
set_option linter.unusedVariables false
section
variable {w : World} {p : Nat} {own : List UInt8} {K : List La} {qs : List Yq}
theorem send20_arg (to : List UInt8) (kind : Int) (a : Option Addr) (n c : Nat) (pp : Option Addr) (hl : to.length ≤ 281474976710656) (own : Bool) (hO : Calls Tryz.prog 80 #[.pointer pp] w fun e w' => e = .returned (.bool own) ∧ w = w') (hn : n ≤ 1000000) (h : own = false ∨ isKey to = false ∨ 4 < n) :
  Calls Tryz.prog 26 #[.pointer pp, Sv to, .int .i64 kind, .slice a n c] w fun e w' => e = .returned (.tuple #[Uv 0, .int .i64 1]) ∧ w = w' := by
 have HK := Hid.mk (isKey26 (w := w) to hl)
 have HO := Hid.mk hO
 clear hO
 cases own with
 | false =>
  go_enter Tryz.func26, Tryz.ntmps26
  go_wp2_with fail
  refine HO.out.mono ?_
  rintro e w1 ⟨rfl, rfl⟩
  go_wp2_with fail
  go_ret2
  exact ⟨rfl, rfl⟩
 | true =>
  cases hk : isKey to with
  | false =>
   rw [hk] at HK
   clear h hk
   go_enter Tryz.func26, Tryz.ntmps26
   go_wp2_with fail
   refine HO.out.mono ?_
   rintro e w1 ⟨rfl, rfl⟩
   go_wp2_with fail
   refine HK.out.mono ?_
   rintro e w1 ⟨rfl, rfl⟩
   go_wp2_with fail
   go_ret2
   exact ⟨rfl, rfl⟩
  | true =>
   rw [hk] at HK h
   have g4 : (4 : Int) < (n : Int) := by rcases h with h | h | h; cases h; cases h; omega
   clear h hk
   go_enter Tryz.func26, Tryz.ntmps26
   go_wp2_with fail
   refine HO.out.mono ?_
   rintro e w1 ⟨rfl, rfl⟩
   go_wp2_with fail
   refine HK.out.mono ?_
   rintro e w1 ⟨rfl, rfl⟩
   go_wp2_with fail
   go_ret2
   exact ⟨rfl, rfl⟩
set_option maxHeartbeats 1000000 in
theorem send20_full (hB : IsO w p own K qs) (hup : Rise K) (hne : own ≠ []) (to : List UInt8) (kind : Int) (a : Option Addr) (n c : Nat) (hk : isKey to = true) (hn : n ≤ 4) (h : qs.length = 32 ∨ (hasK K to = false ∧ K.length = 64)) :
  Calls Tryz.prog 26 #[.pointer (some ⟨p, 0, none⟩), Sv to, .int .i64 kind, .slice a n c] w fun e w' => e = .returned (.tuple #[Uv 0, .int .i64 6]) ∧ Kept [] w w' := by
 have hkl := (isKey_iff to).1 hk
 have HK := Hid.mk (isKey26 (w := w) to (by omega))
 have HO := Hid.mk (owned34 hB)
 have ho : (!own.isEmpty) = true := by cases own with | nil => exact absurd rfl hne | cons _ _ => rfl
 rw [ho] at HO
 rw [hk] at HK
 have hc := hB.count
 have hl := hB.ln
 have g4 : ((4 : Int) < (n : Int)) = False := eq_false (by omega)
 by_cases h32 : qs.length = 32
 ·rw [h32] at hc
  have hc : w.cell? ⟨p, 290, none⟩ = some (.int .i64 32) := hc
  clear h hB h32 hk hkl hl
  go_enter Tryz.func26, Tryz.ntmps26
  go_wp2_with fail
  refine HO.out.mono ?_
  rintro e w1 ⟨rfl, rfl⟩
  go_wp2_with fail
  refine HK.out.mono ?_
  rintro e w1 ⟨rfl, rfl⟩
  go_wp2_with fail
  go_ret2
  exact ⟨rfl, Kept.refl [] _⟩
 ·have h2 : hasK K to = false ∧ K.length = 64 := by rcases h with h | h; exact absurd h h32; exact h
  have HN := Hid.mk (hasNext58 hB hup to)
  rw [h2.1, h2.2] at HN
  have e : (if (false : Bool) = true then decide (ser K to < 18446744073709551615) else decide ((64 : Nat) < 64)) = false := by simp
  rw [e] at HN
  have g32 : ((qs.length : Int) == 32) = false := by simp; omega
  clear h hB h32 hk hkl hl h2 e
  go_enter Tryz.func26, Tryz.ntmps26
  go_wp2_with fail
  refine HO.out.mono ?_
  rintro e w1 ⟨rfl, rfl⟩
  go_wp2_with fail
  refine HK.out.mono ?_
  rintro e w1 ⟨rfl, rfl⟩
  go_wp2_with fail
  refine HN.out.mono ?_
  rintro e w1 ⟨rfl, k1⟩
  go_wp2_with fail
  go_ret2
  exact ⟨rfl, k1⟩
set_option maxHeartbeats 1000000 in
theorem send20_ok (hB : IsO w p own K qs) (hup : Rise K) (hne : own ≠ []) (hol : own.length ≤ 1000) (to : List UInt8) (x : Lt) (a : Option Addr) (c : Nat) (hk : isKey to = true) (hn : x.args.length ≤ 4) (hx : ∀ W, Kept [p] w W → ReadsJ W (.slice a x.args.length c) x.args) (hfr : x.fr = own) (hser : x.ser = ser K to + 1) (h32 : qs.length < 32) (h64 : hasK K to = true ∨ K.length < 64) (hs : ser K to + 1 < 18446744073709551616) :
  Calls Tryz.prog 26 #[.pointer (some ⟨p, 0, none⟩), Sv to, .int .i64 x.kind, .slice a x.args.length c] w fun e w' => e = .returned (.tuple #[Uv (ser K to + 1), .int .i64 0]) ∧ ∃ a' c', IsO w' p own (setK K to (ser K to + 1)) (qs ++ [⟨to, x, a', c'⟩]) ∧ Kept [p] w w' ∧ Fresh w (.slice a' x.args.length c') := by
 have hkl := (isKey_iff to).1 hk
 have HK := Hid.mk (isKey26 (w := w) to (by omega))
 have HO := Hid.mk (owned34 hB)
 have ho : (!own.isEmpty) = true := by cases own with | nil => exact absurd rfl hne | cons _ _ => rfl
 rw [ho] at HO
 rw [hk] at HK
 have hc := hB.count
 have g4 : ((4 : Int) < (x.args.length : Int)) = False := eq_false (by omega)
 have HN := Hid.mk (hasNext58 hB hup to)
 have e : (if hasK K to = true then decide (ser K to < 18446744073709551615) else decide (K.length < 64)) = true := by
  split
  ·simp; omega
  ·rename_i hno
   rcases h64 with h | h
   ·exact absurd h hno
   ·simpa using h
 rw [e] at HN
 have g32 : ((qs.length : Int) == 32) = false := by simp; omega
 have HX := Hid.mk hx
 have HC1 : Hid (∀ W, Calls Tryz.prog 83 #[Sv to] W fun e w' => e = .returned (Sv to) ∧ Kept [] W w') := fun W => clone32 to (by omega)
 have HNX : Hid (∀ W, Kept [] w W → Calls Tryz.prog 84 #[.pointer (some ⟨p, 0, none⟩), Sv to] W fun e w' => e = .returned (Uv (ser K to + 1)) ∧ IsO w' p own (setK K to (ser K to + 1)) qs ∧ Kept [p] W w') := fun W k => next59 (hB.kept0 k) hup to h64 hs
 have HBX : Hid (∃ cs1, w.heap[p]? = some (.cells cs1 168 (0, 0))) := by obtain ⟨cs1, hb1, -⟩ := hB.box; exact ⟨_, hb1⟩
 have hpl := hB.lt
 have HXP : Hid (∀ W, Kept [p] w W → ReadsJ W (.slice a x.args.length c) x.args) := fun W k => hx W k
 rw [← hser] at HNX ⊢
 rw [← hfr] at hol ⊢
 rw [← hfr] at HNX
 have HKS : Hid (∃ K', setK K to x.ser = K') := ⟨_, rfl⟩
 obtain ⟨K', hK'⟩ := HKS.out
 rw [hK'] at HNX ⊢
 clear hB hk hkl e hK' HKS hx hfr hser hup hne
 go_enter Tryz.func26, Tryz.ntmps26
 go_wp2_with fail
 refine HO.out.mono ?_
 rintro e w1 ⟨rfl, rfl⟩
 go_wp2_with fail
 refine HK.out.mono ?_
 rintro e w1 ⟨rfl, rfl⟩
 go_wp2_with fail
 refine HN.out.mono ?_
 rintro e w1 ⟨rfl, k1⟩
 go_wp2_with fail
 refine (HC1.out _).mono ?_
 rintro e w2 ⟨rfl, k2⟩
 have k02 := k1.trans k2 (by simp)
 go_wp2_with fail
 refine (HNX.out _ k02).mono ?_
 rintro e w3 ⟨rfl, hB3, k3⟩
 have c3 := hB3.owner
 have hp3 := hB3.lt
 have k03 : Kept [p] w w3 := (k02.mono (by simp)).trans k3 (by simp)
 go_wp2_with fail
 obtain ⟨W4, e4, k4, hz4, hb4⟩ := box1 w3 (.cells #[Sv x.fr, .int .u64 (x.ser : Int), .int .i64 x.kind, .slice a x.args.length c] 81)
 rw [e4]
 have k04 : Kept [p] w W4 := k03.trans k4 (by simp)
 have HC := Hid.mk (copy17 x a c (HXP.out _ k04) (by omega) (by omega))
 obtain ⟨y0, y1, y2, y3⟩ := cells4 hb4
 have HB4 := Hid.mk (hB3.kept0 k4)
 clear hB3 c3 e4
 refine HC.out.mono ?_
 rintro e w5 ⟨a5, c5, rfl, hO5, k5, hf5⟩
 have HP5 := Hid.mk (push60 ⟨to, x, a5, c5⟩ (HB4.out.kept0 k5) h32 hO5)
 go_wp2_with fail
 refine HP5.out.mono ?_
 rintro e w6 ⟨rfl, hB6, k6⟩
 go_wp2_with fail
 go_ret2
 refine ⟨rfl, a5, c5, hB6, (k04.trans k5 (by simp)).trans k6 (by simp), fun g hg => ?_⟩
 have := hf5 g hg
 have := k04.size
 omega
end
section
variable {w0 w w' : World} {p pf : Nat} {v u : Value} {own : List UInt8} {K : List La} {qs ms : List Yq}
end
section
variable {w0 w w' : World} {p pf : Nat} {o : Ob} {B : Nat}
theorem GoodO.fit {qs : List Yq} (g : GoodO o) (h : qs.map ot = o.L) : Fitq qs := fun y hy => by
 have hm : ot y ∈ o.L := by rw [← h]; exact List.mem_map.2 ⟨y, hy, rfl⟩
 obtain ⟨h1, h2, h3, h4⟩ := g.lets _ hm
 obtain ⟨z, hz, e⟩ := (has_mem g.rise).1 h4
 have hk := (isKey_iff _).1 (g.key z hz).1
 have h2' : y.q.x.fr.length ≤ 40 ∧ y.q.x.args.length ≤ 4 := by have h3 := h2; simp only [ot, Lt.formed, Bool.and_eq_true] at h3; exact ⟨of_decide_eq_true h3.1, of_decide_eq_true h3.2⟩
 have e' : z.k = y.to := e
 rw [← e']
 omega
theorem GoodO.ne (g : GoodO o) : o.own ≠ [] ∧ o.own.length ≤ 40 := by
 have := (isKey_iff _).1 g.own
 refine ⟨fun e => ?_, this.2⟩
 rw [e] at this
 simp at this
end
instance : DecidableEq Lt := fun x y => decidable_of_iff _ (sameL_iff x y)
section
variable {w : World}
set_option maxRecDepth 100000 in
set_option maxHeartbeats 1000000 in
theorem sameAll24 {a a' : Option Addr} {n n' c c' : Nat} {l m : List Lq} (hr : RowQ w (.slice a n c) l) (hv : ValsQ w l) (hr' : RowQ w (.slice a' n' c') m) (hv' : ValsQ w m) (hl : n ≤ 1000000) (hal : ∀ q ∈ l, q.x.args.length ≤ 1000000) :
  Calls Tryz.prog 45 #[.slice a n c, .slice a' n' c'] w fun e w' => e = .returned (.bool (decide (l.map (·.x) = m.map (·.x)))) ∧ Kept [] w w' := by
 obtain ⟨hn, hc1, hc2⟩ := hr.bound
 obtain ⟨hn', hc3, hc4⟩ := hr'.bound
 have HN := Hid.mk hn
 have HN' := Hid.mk hn'
 have HR := Hid.mk hr
 have HR' := Hid.mk hr'
 have HV := Hid.mk hv
 have HV' := Hid.mk hv'
 have HA := Hid.mk hal
 clear hn hn' hr hr' hv hv' hal
 generalize hD : decide (l.map (·.x) = m.map (·.x)) = D
 have HD := Hid.mk hD
 clear hD
 by_cases hlen : n = n'
 ·subst hlen
  go_enter Tryz.func45, Tryz.ntmps45
  go_wp2_with fail
  go_loopw [13] (fun i wr => ∃ j : Nat, i = .int .i64 (j : Int) ∧ j ≤ n ∧ Hid ((l.take j).map (·.x) = (m.take j).map (·.x)) ∧ Hid (Kept [] w wr)) (fun i _ => n - (intOf i).toNat)
  case atStart => exact ⟨0, rfl, by omega, Hid.mk rfl, Hid.mk (Kept.refl [] w)⟩
  case round =>
   obtain ⟨j, rfl, hj, ht, kk⟩ := hrel
   by_cases hlt : j < n
   ·obtain ⟨q, hq⟩ : ∃ q, l[j]? = some q := ⟨_, List.getElem?_eq_getElem (by have := HN.out; omega)⟩
    obtain ⟨q', hq'⟩ : ∃ q, m[j]? = some q := ⟨_, List.getElem?_eq_getElem (by have := HN'.out; omega)⟩
    have hjI : (j : Int) < (n : Int) := by omega
    have kd := kk.out.drew
    obtain ⟨b, o, rfl, d0, d1, d2, d3⟩ := (HR.out.kept kd (by simp)).at hq
    obtain ⟨b', o', rfl, e0, e1, e2, e3⟩ := (HR'.out.kept kd (by simp)).at hq'
    have S0 : wr.drew.cell? ⟨b, o + j * 4, none⟩ = some (Sv q.x.fr) ∧ wr.drew.cell? ⟨b, o + j * 4 + 1, none⟩ = some (.int .u64 (q.x.ser : Int)) ∧ wr.drew.cell? ⟨b, o + j * 4 + 2, none⟩ = some (.int .i64 q.x.kind) ∧ wr.drew.cell? ⟨b, o + j * 4 + 3, none⟩ = some (.slice q.ad q.x.args.length q.cap) ∧ wr.drew.cell? ⟨b', o' + j * 4, none⟩ = some (Sv q'.x.fr) ∧ wr.drew.cell? ⟨b', o' + j * 4 + 1, none⟩ = some (.int .u64 (q'.x.ser : Int)) ∧ wr.drew.cell? ⟨b', o' + j * 4 + 2, none⟩ = some (.int .i64 q'.x.kind) ∧ wr.drew.cell? ⟨b', o' + j * 4 + 3, none⟩ = some (.slice q'.ad q'.x.args.length q'.cap) := ⟨d0, d1, d2, d3, e0, e1, e2, e3⟩
    have HC : Hid (Calls Tryz.prog 103 #[Lv q.x q.ad q.cap, Lv q'.x q'.ad q'.cap] wr.drew fun e w' => e = .returned (.bool (sameL q.x q'.x)) ∧ Kept [] wr.drew w') := same16 q.x q'.x q.ad q'.ad q.cap q'.cap ((HV.out q (List.mem_of_getElem? hq)).kept kd (by simp)) ((HV'.out q' (List.mem_of_getElem? hq')).kept kd (by simp)) (by have := HA.out q (List.mem_of_getElem? hq); omega)
    have HQ := Hid.mk hq
    have HQ' := Hid.mk hq'
    have KD := Hid.mk kd
    have hsl := sameL_iff q.x q'.x
    have HSL := Hid.mk hsl
    clear hq hq' kd d0 d1 d2 d3 e0 e1 e2 e3 hsl
    cases hs : sameL q.x q'.x with
    | true =>
     rw [hs] at HC HSL
     clear hs
     go_wp2_with fail
     go_region_held3 (fun w' => w'.cell? ⟨b, o + j * 4, none⟩ = some (Sv q.x.fr) ∧ w'.cell? ⟨b, o + j * 4 + 1, none⟩ = some (.int .u64 (q.x.ser : Int)) ∧ w'.cell? ⟨b, o + j * 4 + 2, none⟩ = some (.int .i64 q.x.kind) ∧ w'.cell? ⟨b, o + j * 4 + 3, none⟩ = some (.slice q.ad q.x.args.length q.cap) ∧ w'.cell? ⟨b', o' + j * 4, none⟩ = some (Sv q'.x.fr) ∧ w'.cell? ⟨b', o' + j * 4 + 1, none⟩ = some (.int .u64 (q'.x.ser : Int)) ∧ w'.cell? ⟨b', o' + j * 4 + 2, none⟩ = some (.int .i64 q'.x.kind) ∧ w'.cell? ⟨b', o' + j * 4 + 3, none⟩ = some (.slice q'.ad q'.x.args.length q'.cap)) (first | exact S0 | exact S1) ((go_at_call 103; refine HC.out.mono ?_; rintro e w1 ⟨rfl, k1⟩; have S1 := (fun (k : Kept [] wr.drew w1) => (⟨k.cell_eq S0.1, k.cell_eq S0.2.1, k.cell_eq S0.2.2.1, k.cell_eq S0.2.2.2.1, k.cell_eq S0.2.2.2.2.1, k.cell_eq S0.2.2.2.2.2.1, k.cell_eq S0.2.2.2.2.2.2.1, k.cell_eq S0.2.2.2.2.2.2.2⟩ : w1.cell? ⟨b, o + j * 4, none⟩ = some (Sv q.x.fr) ∧ w1.cell? ⟨b, o + j * 4 + 1, none⟩ = some (.int .u64 (q.x.ser : Int)) ∧ w1.cell? ⟨b, o + j * 4 + 2, none⟩ = some (.int .i64 q.x.kind) ∧ w1.cell? ⟨b, o + j * 4 + 3, none⟩ = some (.slice q.ad q.x.args.length q.cap) ∧ w1.cell? ⟨b', o' + j * 4, none⟩ = some (Sv q'.x.fr) ∧ w1.cell? ⟨b', o' + j * 4 + 1, none⟩ = some (.int .u64 (q'.x.ser : Int)) ∧ w1.cell? ⟨b', o' + j * 4 + 2, none⟩ = some (.int .i64 q'.x.kind) ∧ w1.cell? ⟨b', o' + j * 4 + 3, none⟩ = some (.slice q'.ad q'.x.args.length q'.cap))) k1))
     clear S0 S1
     go_wp2
     go_roundw
     case rel =>
      refine ⟨j + 1, by go_num, by omega, Hid.mk ?_, Hid.mk (KD.out.trans k1 (by simp))⟩
      rw [List.take_add_one, List.take_add_one, HQ.out, HQ'.out, List.map_append, List.map_append, ht.out]
      have h := HSL.out
      simp at h
      simp [h]
     case measure => simp [intOf]; omega
    | false =>
     rw [hs] at HC HSL
     clear hs
     go_wp2_with fail
     go_region_held3 (fun w' => w'.cell? ⟨b, o + j * 4, none⟩ = some (Sv q.x.fr) ∧ w'.cell? ⟨b, o + j * 4 + 1, none⟩ = some (.int .u64 (q.x.ser : Int)) ∧ w'.cell? ⟨b, o + j * 4 + 2, none⟩ = some (.int .i64 q.x.kind) ∧ w'.cell? ⟨b, o + j * 4 + 3, none⟩ = some (.slice q.ad q.x.args.length q.cap) ∧ w'.cell? ⟨b', o' + j * 4, none⟩ = some (Sv q'.x.fr) ∧ w'.cell? ⟨b', o' + j * 4 + 1, none⟩ = some (.int .u64 (q'.x.ser : Int)) ∧ w'.cell? ⟨b', o' + j * 4 + 2, none⟩ = some (.int .i64 q'.x.kind) ∧ w'.cell? ⟨b', o' + j * 4 + 3, none⟩ = some (.slice q'.ad q'.x.args.length q'.cap)) (first | exact S0 | exact S1) ((go_at_call 103; refine HC.out.mono ?_; rintro e w1 ⟨rfl, k1⟩; have S1 := (fun (k : Kept [] wr.drew w1) => (⟨k.cell_eq S0.1, k.cell_eq S0.2.1, k.cell_eq S0.2.2.1, k.cell_eq S0.2.2.2.1, k.cell_eq S0.2.2.2.2.1, k.cell_eq S0.2.2.2.2.2.1, k.cell_eq S0.2.2.2.2.2.2.1, k.cell_eq S0.2.2.2.2.2.2.2⟩ : w1.cell? ⟨b, o + j * 4, none⟩ = some (Sv q.x.fr) ∧ w1.cell? ⟨b, o + j * 4 + 1, none⟩ = some (.int .u64 (q.x.ser : Int)) ∧ w1.cell? ⟨b, o + j * 4 + 2, none⟩ = some (.int .i64 q.x.kind) ∧ w1.cell? ⟨b, o + j * 4 + 3, none⟩ = some (.slice q.ad q.x.args.length q.cap) ∧ w1.cell? ⟨b', o' + j * 4, none⟩ = some (Sv q'.x.fr) ∧ w1.cell? ⟨b', o' + j * 4 + 1, none⟩ = some (.int .u64 (q'.x.ser : Int)) ∧ w1.cell? ⟨b', o' + j * 4 + 2, none⟩ = some (.int .i64 q'.x.kind) ∧ w1.cell? ⟨b', o' + j * 4 + 3, none⟩ = some (.slice q'.ad q'.x.args.length q'.cap))) k1))
     clear S0 S1
     go_wp2
     go_ret
     refine ⟨?_, KD.out.trans k1 (by simp)⟩
     have : D = false := by
      rw [← HD.out]
      simp only [decide_eq_false_iff_not]
      intro e
      have h := congrArg (fun z : List Lt => z[j]?) e
      simp only [List.getElem?_map, HQ.out, HQ'.out, Option.map_some, Option.some.injEq] at h
      exact absurd (HSL.out.2 h) (by simp)
     rw [this]
     rfl
   ·obtain rfl : j = n := by omega
    go_wp2
    go_ret
    refine ⟨?_, kk.out⟩
    have : D = true := by
     rw [← HD.out]
     simp only [decide_eq_true_eq]
     have := ht.out
     rwa [List.take_of_length_le (by rw [← HN.out]; exact Nat.le_refl _), List.take_of_length_le (by rw [← HN'.out]; exact Nat.le_refl _)] at this
    rw [this]
    rfl
 ·have : D = false := by
   rw [← HD.out]
   simp only [decide_eq_false_iff_not]
   intro e
   have := congrArg List.length e
   simp at this
   exact hlen (HN.out.trans (this.trans HN'.out.symm))
  subst this
  have h1 : ((n : Int) != (n' : Int)) = true := by simp; omega
  go_enter Tryz.func45, Tryz.ntmps45
  go_wp2_with fail
  go_ret
  exact ⟨rfl, Kept.refl [] w⟩
end
structure OwnL (w0 w : World) (v : Value) (qs : List Lq) : Prop where
 own : OwnsR 81 4 w v (CQ qs)
 args : ∀ q ∈ qs, OwnsJ w q.sl q.x.args
 fr : Fresh w0 v
 fra : ∀ q ∈ qs, Fresh w0 q.sl
theorem OwnL.nil (w0 w : World) : OwnL w0 w (.slice none 0 0) [] := ⟨OwnsR.nil 81 4 w, by simp, fresh_nil w0 0, by simp⟩
theorem OwnL.kept {S : List Nat} {w0 w w' : World} {v : Value} {qs : List Lq} (h : OwnL w0 w v qs) (k : Kept S w w') (hS : ∀ y ∈ S, v.ownBlock ≠ some y ∧ ∀ q ∈ qs, q.sl.ownBlock ≠ some y) : OwnL w0 w' v qs :=
 ⟨h.own.kept k (fun g hg hm => (hS g hm).1 hg), fun q hq => (h.args q hq).kept k (fun g hg hm => (hS g hm).2 q hq hg), h.fr, h.fra⟩
theorem OwnL.kept0 {w0 w w' : World} {v : Value} {qs : List Lq} (h : OwnL w0 w v qs) (k : Kept [] w w') : OwnL w0 w' v qs := h.kept k (by simp)
theorem OwnL.row {w0 w : World} {v : Value} {qs : List Lq} (h : OwnL w0 w v qs) : RowQ w v qs := h.own.reads (CQ_wide qs)
theorem OwnL.vals {w0 w : World} {v : Value} {qs : List Lq} (h : OwnL w0 w v qs) : ValsQ w qs := fun q hq => (h.args q hq).reads
theorem OwnL.app {w0 w : World} {v : Value} {qs : List Lq} (h : OwnL w0 w v qs) (q : Lq) (hq : OwnsJ w q.sl q.x.args) (hf : Fresh w0 q.sl) (hs : w0.heap.size ≤ w.heap.size) (hn : qs.length ≤ 900000) : ∃ ad c w', (Builtin.append_ #[26, 26] 26 #[v, .slice (some ⟨w.heap.size, 0, none⟩) 1 1]).run Tryz.prog (w.alloc (.cells #[Sv q.x.fr, .int .u64 (q.x.ser : Int), .int .i64 q.x.kind, q.sl] 81)) = .ok (.slice ad (qs.length + 1) c) w' ∧ OwnL w0 w' (.slice ad (qs.length + 1) c) (qs ++ [q]) ∧ Kept v.ownBlock.toList w w' := by
 obtain ⟨ad, c, w', hrun, ho, k, hN⟩ := append_rowR rt28 h.own (cellsQ q) rfl (fun u hu => by simp [cellsQ] at hu; rcases hu with rfl | rfl | rfl | rfl <;> rfl) (by rw [CQ_length]; exact hn) 81 (0, 0) 26
 rw [CQ_length] at *
 refine ⟨ad, c, w', hrun, ⟨?_, fun y hy => ?_, fun g hg => ?_, fun y hy => ?_⟩, k⟩
 ·rw [CQ_append]; exact ho
 ·have hy' : OwnsJ w y.sl y.x.args := by
   rcases List.mem_append.1 hy with hy | hy
   ·exact h.args y hy
   ·simp at hy; subst hy; exact hq
  exact hy'.kept k (fun g hg hm => by rw [Option.mem_toList] at hm; exact own_apart hy' h.own (by decide) hg hm)
 ·rcases hN g hg with h1 | h1
  ·exact h.fr g h1
  ·omega
 ·rcases List.mem_append.1 hy with hy | hy
  ·exact h.fra y hy
  ·simp at hy; subst hy; exact hf
theorem OwnL.elder {w0 w1 w : World} {v : Value} {qs : List Lq} (h : OwnL w1 w v qs) (hs : w0.heap.size ≤ w1.heap.size) : OwnL w0 w v qs :=
 ⟨h.own, h.args, fun g hg => Nat.le_trans hs (h.fr g hg), fun q hq g hg => Nat.le_trans hs (h.fra q hq g hg)⟩
section
variable {w : World}
end
section
variable {P : Program}
end
theorem put4_cell (w : World) (p o : Nat) (v0 v1 v2 v3 : Value) {a : Addr} (h : a.block = p → a.off < o ∨ o + 4 ≤ a.off) : ((((w.setCell ⟨p, o, none⟩ v0).setCell ⟨p, o + 1, none⟩ v1).setCell ⟨p, o + 2, none⟩ v2).setCell ⟨p, o + 3, none⟩ v3).cell? a = w.cell? a := by
 rw [World.cell?_setCell_other, World.cell?_setCell_other, World.cell?_setCell_other, World.cell?_setCell_other]
 all_goals (intro e; subst e; have := h rfl; simp at this; omega)
theorem putL {w : World} {p o : Nat} {L : List Value} {t : TypeId} (h : w.heap[p]? = some (.cells L.toArray t (0, 0))) (x0 x1 x2 x3 : Value) : ∃ W, (((w.setCell ⟨p, o, none⟩ x0).setCell ⟨p, o + 1, none⟩ x1).setCell ⟨p, o + 2, none⟩ x2).setCell ⟨p, o + 3, none⟩ x3 = W ∧ Kept [p] w W ∧ W.heap[p]? = some (.cells ((((L.set o x0).set (o + 1) x1).set (o + 2) x2).set (o + 3) x3).toArray t (0, 0)) ∧ W.heap.size = w.heap.size :=
 ⟨_, rfl, ((((Kept.refl [p] w).setCell (p := ⟨p, o, none⟩) (.inl (by simp)) x0).setCell (p := ⟨p, o + 1, none⟩) (.inl (by simp)) x1).setCell (p := ⟨p, o + 2, none⟩) (.inl (by simp)) x2).setCell (p := ⟨p, o + 3, none⟩) (.inl (by simp)) x3, set_list (set_list (set_list (set_list h))), by simp⟩
def zq : Lq := ⟨⟨[], 0, 0, []⟩, none, 0⟩
def padQ (qs : List Lq) : List Lq := qs ++ List.replicate (8 - qs.length) zq
def cellsB (qs : List Lq) : List Value := (CQ (padQ qs)).flatten ++ [.int .i64 (qs.length : Int)]
theorem padQ_length {qs : List Lq} (h : qs.length ≤ 8) : (padQ qs).length = 8 := by simp [padQ]; omega
theorem flatB_length {qs : List Lq} (h : qs.length ≤ 8) : (CQ (padQ qs)).flatten.length = 32 := by rw [(CQ_wide _).flat_length, CQ_length, padQ_length h]
theorem cellsB_length {qs : List Lq} (h : qs.length ≤ 8) : (cellsB qs).length = 33 := by simp only [cellsB, List.length_append, flatB_length h]; rfl
theorem cellsB_count {qs : List Lq} (h : qs.length ≤ 8) : (cellsB qs)[32]? = some (.int .i64 (qs.length : Int)) := by
 rw [cellsB, List.getElem?_append_right (by rw [flatB_length h]; omega), flatB_length h]
 rfl
theorem cellsB_at {qs : List Lq} (h : qs.length ≤ 8) {j : Nat} {q : Lq} (hj : (padQ qs)[j]? = some q) {i : Nat} {v : Value} (hi : (cellsQ q)[i]? = some v) : (cellsB qs)[j * 4 + i]? = some v := by
 have h1 : j < 8 := by
  have := (List.getElem?_eq_some_iff.1 hj).1
  rw [padQ_length h] at this; exact this
 have h2 : i < 4 := (List.getElem?_eq_some_iff.1 hi).1
 rw [cellsB, List.getElem?_append_left (by rw [flatB_length h]; omega)]
 exact (CQ_wide _).at j (cellsQ q) (by simp [CQ, hj]) i v hi
theorem padQ_get {qs : List Lq} {j : Nat} {q : Lq} (hj : qs[j]? = some q) : (padQ qs)[j]? = some q := by
 rw [padQ, List.getElem?_append_left (List.getElem?_eq_some_iff.1 hj).1]; exact hj
theorem cellsB_push (qs : List Lq) (q : Lq) (h : qs.length < 8) : (((((cellsB qs).set (qs.length * 4) (Sv q.x.fr)).set (qs.length * 4 + 1) (.int .u64 (q.x.ser : Int))).set (qs.length * 4 + 2) (.int .i64 q.x.kind)).set (qs.length * 4 + 3) q.sl).set 32 (.int .i64 ((qs.length + 1 : Nat) : Int)) = cellsB (qs ++ [q]) := by
 match qs, h with
 | [], _ => rfl
 | [_], _ => rfl
 | [_, _], _ => rfl
 | [_, _, _], _ => rfl
 | [_, _, _, _], _ => rfl
 | [_, _, _, _, _], _ => rfl
 | [_, _, _, _, _, _], _ => rfl
 | [_, _, _, _, _, _, _], _ => rfl
 | _ :: _ :: _ :: _ :: _ :: _ :: _ :: _ :: _, h => simp at h; omega
theorem cellsB_pop (q : Lq) (qs : List Lq) (h : qs.length < 8) : ((((((CQ qs).flatten ++ (cellsB (q :: qs)).drop (CQ qs).flatten.length).set 32 (.int .i64 (qs.length : Int))).set (qs.length * 4) (Sv [])).set (qs.length * 4 + 1) (.int .u64 0)).set (qs.length * 4 + 2) (.int .i64 0)).set (qs.length * 4 + 3) (.slice none 0 0) = cellsB qs := by
 match qs, h with
 | [], _ => rfl
 | [_], _ => rfl
 | [_, _], _ => rfl
 | [_, _, _], _ => rfl
 | [_, _, _, _], _ => rfl
 | [_, _, _, _, _], _ => rfl
 | [_, _, _, _, _, _], _ => rfl
 | [_, _, _, _, _, _, _], _ => rfl
 | _ :: _ :: _ :: _ :: _ :: _ :: _ :: _ :: _, h => simp at h; omega
structure IsB (w : World) (p : Nat) (qs : List Lq) : Prop where
 box : w.heap[p]? = some (.cells (cellsB qs).toArray 140 (0, 0))
 len : qs.length ≤ 8
 good : ∀ q ∈ qs, q.x.ok ∧ q.x.formed = true
 args : ∀ q ∈ qs, OwnsJ w q.sl q.x.args
section
variable {w w' : World} {p : Nat} {qs : List Lq}
theorem IsB.lt (h : IsB w p qs) : p < w.heap.size := lt_of_block h.box
theorem IsB.kept {S : List Nat} (h : IsB w p qs) (k : Kept S w w') (hp : p ∉ S) (hq : ∀ q ∈ qs, ∀ g, q.sl.ownBlock = some g → g ∉ S) : IsB w' p qs :=
 ⟨k.keeps h.box hp, h.len, h.good, fun q hm => (h.args q hm).kept k (hq q hm)⟩
theorem IsB.kept0 (h : IsB w p qs) (k : Kept [] w w') : IsB w' p qs := h.kept k (by simp) (by simp)
theorem IsB.cell (h : IsB w p qs) {i : Nat} {v : Value} (hi : (cellsB qs)[i]? = some v) : w.cell? ⟨p, i, none⟩ = some v := by
 unfold World.cell?
 rw [h.box]
 simpa using hi
theorem IsB.free (h : IsB w p qs) (i : Nat) : w.frozen? ⟨p, i, none⟩ = false := by
 simp [World.frozen?, h.box]
theorem IsB.count (h : IsB w p qs) : w.cell? ⟨p, 32, none⟩ = some (.int .i64 (qs.length : Int)) := h.cell (cellsB_count h.len)
theorem IsB.at (h : IsB w p qs) {j : Nat} {q : Lq} (hj : qs[j]? = some q) : w.cell? ⟨p, j * 4, none⟩ = some (Sv q.x.fr) ∧ w.cell? ⟨p, j * 4 + 1, none⟩ = some (.int .u64 (q.x.ser : Int)) ∧ w.cell? ⟨p, j * 4 + 2, none⟩ = some (.int .i64 q.x.kind) ∧ w.cell? ⟨p, j * 4 + 3, none⟩ = some q.sl :=
 ⟨h.cell (cellsB_at h.len (padQ_get hj) (i := 0) rfl), h.cell (cellsB_at h.len (padQ_get hj) (i := 1) rfl), h.cell (cellsB_at h.len (padQ_get hj) (i := 2) rfl), h.cell (cellsB_at h.len (padQ_get hj) (i := 3) rfl)⟩
theorem IsB.any (h : IsB w p qs) {i : Nat} (hi : i < 33) : ∃ v, w.cell? ⟨p, i, none⟩ = some v :=
 ⟨_, h.cell (List.getElem?_eq_getElem (by rw [cellsB_length h.len]; exact hi))⟩
theorem IsB.row (h : IsB w p qs) : RowQ w (.slice (some ⟨p, 0, none⟩) qs.length 8) qs := by
 refine ⟨some ⟨p, 0, none⟩, 8, by rw [CQ_length], by rw [CQ_length]; exact h.len, by unfold maxLen; omega, by simp, fun _ => ⟨p, 0, rfl, fun j r hr i x hx => ?_⟩⟩
 rw [CQ, List.getElem?_map, Option.map_eq_some_iff] at hr
 obtain ⟨q, hq, rfl⟩ := hr
 rw [Nat.zero_add]
 exact h.cell (cellsB_at h.len (padQ_get hq) hx)
theorem IsB.vals (h : IsB w p qs) : ValsQ w qs := fun q hq => (h.args q hq).reads
theorem IsB.new (w : World) : IsB (w.alloc (.cells (cellsB []).toArray 140)) w.heap.size [] :=
 ⟨heap_alloc_new w _, by simp, by simp, by simp⟩
end
def pushE (n : Nat) (x : Lt) : Int := if x.formed = false then 1 else if n = 8 then 7 else 0
def pushL (l : List Lt) (x : Lt) : List Lt := if x.formed = true ∧ l.length ≠ 8 then l ++ [x] else l
def PushAt (w : World) (p : Nat) (qs : List Lq) (x : Lt) (e : Ending) (w' : World) : Prop :=
 ∃ qs', e = .returned (.int .i64 (pushE qs.length x)) ∧ IsB w' p qs' ∧ qs'.map (·.x) = pushL (qs.map (·.x)) x ∧ Kept [p] w w' ∧ ∀ q ∈ qs', q ∈ qs ∨ Fresh w q.sl
section
variable {w : World} {p : Nat} {qs : List Lq}
theorem push_bad {w' : World} {x : Lt} (h : IsB w' p qs) (hf : x.formed = false) (k : Kept [] w w') : PushAt w p qs x (.returned (.int .i64 1)) w' :=
 ⟨qs, by unfold pushE; rw [if_pos hf], h, by unfold pushL; rw [if_neg (by simp [hf])], k.mono (by simp), fun q hq => .inl hq⟩
theorem push_full {w' : World} {x : Lt} (h : IsB w' p qs) (hf : x.formed = true) (hn : qs.length = 8) (k : Kept [] w w') : PushAt w p qs x (.returned (.int .i64 7)) w' :=
 ⟨qs, by unfold pushE; rw [if_neg (by simp [hf]), if_pos hn], h, by unfold pushL; rw [if_neg (by simp [hn])], k.mono (by simp), fun q hq => .inl hq⟩
theorem push_yes {w' : World} {x : Lt} {a : Option Addr} {c : Nat} (hf : x.formed = true) (hn : qs.length ≠ 8) (h : IsB w' p (qs ++ [⟨x, a, c⟩])) (k : Kept [p] w w') (hfr : Fresh w (.slice a x.args.length c)) : PushAt w p qs x (.returned (.int .i64 0)) w' :=
 ⟨_, by unfold pushE; rw [if_neg (by simp [hf]), if_neg hn], h, by unfold pushL; rw [if_pos ⟨hf, by simpa using hn⟩]; simp, k, fun q hq => by
  rcases List.mem_append.1 hq with h | h
  ·exact .inl h
  ·simp at h; subst h; exact .inr hfr⟩
set_option maxRecDepth 100000 in
set_option maxHeartbeats 1000000 in
theorem len21 (hB : IsB w p qs) : Calls Tryz.prog 16 #[.pointer (some ⟨p, 0, none⟩)] w fun e w' => e = .returned (.int .i64 (qs.length : Int)) ∧ w = w' := by
 have hc := hB.count
 clear hB
 go_enter Tryz.func16, Tryz.ntmps16
 go_wp2_with fail
 go_ret
 exact ⟨rfl, rfl⟩
set_option maxRecDepth 100000 in
set_option maxHeartbeats 1000000 in
theorem new10 : Calls Tryz.prog 58 #[] w fun e w' => e = .returned (.pointer (some ⟨w.heap.size, 0, none⟩)) ∧ IsB w' w.heap.size [] ∧ Kept [] w w' ∧ w'.heap.size = w.heap.size + 1 := by
 go_enter Tryz.func58, Tryz.ntmps58
 go_wp2_with fail
 go_ret
 exact ⟨rfl, IsB.new w, (Kept.refl [] w).alloc _, by simp⟩
set_option maxRecDepth 100000 in
set_option maxHeartbeats 1000000 in
theorem push11 (x : Lt) (a : Option Addr) (c : Nat) (hB : IsB w p qs) (hx : ReadsJ w (.slice a x.args.length c) x.args) (hok : x.ok) :
  Calls Tryz.prog 22 #[.pointer (some ⟨p, 0, none⟩), Lv x a c] w fun e w' => PushAt w p qs x e w' := by
 have HB := Hid.mk hB
 have HX := Hid.mk hx
 have H1 : Hid (∀ W, IsB W p qs → x.formed = false → Kept [] w W → PushAt w p qs x (.returned (.int .i64 1)) W) := fun W => push_bad
 have H2 : Hid (∀ W, IsB W p qs → x.formed = true → qs.length = 8 → Kept [] w W → PushAt w p qs x (.returned (.int .i64 7)) W) := fun W => push_full
 have H3 : Hid (∀ W a c, x.formed = true → qs.length ≠ 8 → IsB W p (qs ++ [⟨x, a, c⟩]) → Kept [p] w W → Fresh w (.slice a x.args.length c) → PushAt w p qs x (.returned (.int .i64 0)) W) := fun W a c => push_yes
 generalize PushAt w p qs x = R at H1 H2 H3
 clear hB hx
 go_enter Tryz.func22, Tryz.ntmps22
 go_wp2_with fail
 obtain ⟨W0, e0, k0, hz0, hb0⟩ := box1 w (.cells #[Sv x.fr, .int .u64 (x.ser : Int), .int .i64 x.kind, .slice a x.args.length c] 81)
 rw [e0]
 clear e0
 refine (formed13 x a c).mono ?_
 rintro e w1 ⟨rfl, k1⟩
 have hb1 := k1.keeps hb0 (by simp)
 have k01 := k0.trans k1 (by simp)
 have hB1 := HB.out.kept0 k01
 have hc1 := hB1.count
 cases hfm : x.formed with
 | false =>
  go_wp2_with fail
  exact H1.out _ hB1 hfm k01
 | true =>
  have HF := Hid.mk hfm
  have hfl := formed_le hfm
  clear hfm
  have hlen := hB1.len
  by_cases h8 : qs.length = 8
  ·have g8 : ((qs.length : Int) == 8) = true := by simp; omega
   have H8 := Hid.mk h8
   clear h8
   go_wp2_with fail
   exact H2.out _ hB1 HF.out H8.out k01
  ·have g8 : ((qs.length : Int) == 8) = false := by simp; omega
   have h8' : qs.length < 8 := by omega
   have H8 := Hid.mk h8
   clear h8 hlen
   have kd := k01.drew
   have hB2 := HB.out.kept0 kd
   have hbd : w1.drew.heap[w.heap.size]? = some (.cells #[Sv x.fr, .int .u64 (x.ser : Int), .int .i64 x.kind, .slice a x.args.length c] 81 (0, 0)) := hb1
   have HS : Hid (∀ W, Kept [] w1.drew W → (W.cell? ⟨p, 32, none⟩ = some (.int .i64 (qs.length : Int)) ∧ W.cell? ⟨w.heap.size, 0, none⟩ = some (Sv x.fr) ∧ W.cell? ⟨w.heap.size, 1, none⟩ = some (.int .u64 (x.ser : Int)) ∧ W.cell? ⟨w.heap.size, 2, none⟩ = some (.int .i64 x.kind) ∧ W.cell? ⟨w.heap.size, 3, none⟩ = some (.slice a x.args.length c))) := fun W k => by
    obtain ⟨c0, c1, c2, c3⟩ := cells4 hbd
    exact ⟨k.cell_eq hB2.count, k.cell_eq c0, k.cell_eq c1, k.cell_eq c2, k.cell_eq c3⟩
   have S0 := HS.out _ (Kept.refl [] _)
   obtain ⟨d0, hd0⟩ := hB2.any (i := qs.length * 4) (by omega)
   obtain ⟨d1, hd1⟩ := hB2.any (i := qs.length * 4 + 1) (by omega)
   obtain ⟨d2, hd2⟩ := hB2.any (i := qs.length * 4 + 2) (by omega)
   obtain ⟨d3, hd3⟩ := hB2.any (i := qs.length * 4 + 3) (by omega)
   have HD : Hid (∀ W, Kept [] w1.drew W → (W.cell? ⟨p, qs.length * 4, none⟩ = some d0 ∧ W.cell? ⟨p, qs.length * 4 + 1, none⟩ = some d1 ∧ W.cell? ⟨p, qs.length * 4 + 2, none⟩ = some d2 ∧ W.cell? ⟨p, qs.length * 4 + 3, none⟩ = some d3) ∧ (W.frozen? ⟨p, qs.length * 4, none⟩ = false ∧ W.frozen? ⟨p, qs.length * 4 + 1, none⟩ = false ∧ W.frozen? ⟨p, qs.length * 4 + 2, none⟩ = false ∧ W.frozen? ⟨p, qs.length * 4 + 3, none⟩ = false)) := fun W k =>
    ⟨⟨k.cell_eq hd0, k.cell_eq hd1, k.cell_eq hd2, k.cell_eq hd3⟩, (hB2.kept0 k).free _, (hB2.kept0 k).free _, (hB2.kept0 k).free _, (hB2.kept0 k).free _⟩
   clear hd0 hd1 hd2 hd3
   have HP : Hid (∀ W a2 c2, Kept [] w1.drew W → ((((((W.setCell ⟨p, qs.length * 4, none⟩ (Sv x.fr)).setCell ⟨p, qs.length * 4 + 1, none⟩ (.int .u64 (x.ser : Int))).setCell ⟨p, qs.length * 4 + 2, none⟩ (.int .i64 x.kind)).setCell ⟨p, qs.length * 4 + 3, none⟩ (.slice a2 x.args.length c2)).cell? ⟨p, 32, none⟩ = some (.int .i64 (qs.length : Int))) ∧ (((((W.setCell ⟨p, qs.length * 4, none⟩ (Sv x.fr)).setCell ⟨p, qs.length * 4 + 1, none⟩ (.int .u64 (x.ser : Int))).setCell ⟨p, qs.length * 4 + 2, none⟩ (.int .i64 x.kind)).setCell ⟨p, qs.length * 4 + 3, none⟩ (.slice a2 x.args.length c2)).cell? ⟨w.heap.size, 0, none⟩ = some (Sv x.fr)) ∧ (((((W.setCell ⟨p, qs.length * 4, none⟩ (Sv x.fr)).setCell ⟨p, qs.length * 4 + 1, none⟩ (.int .u64 (x.ser : Int))).setCell ⟨p, qs.length * 4 + 2, none⟩ (.int .i64 x.kind)).setCell ⟨p, qs.length * 4 + 3, none⟩ (.slice a2 x.args.length c2)).cell? ⟨w.heap.size, 1, none⟩ = some (.int .u64 (x.ser : Int))) ∧ (((((W.setCell ⟨p, qs.length * 4, none⟩ (Sv x.fr)).setCell ⟨p, qs.length * 4 + 1, none⟩ (.int .u64 (x.ser : Int))).setCell ⟨p, qs.length * 4 + 2, none⟩ (.int .i64 x.kind)).setCell ⟨p, qs.length * 4 + 3, none⟩ (.slice a2 x.args.length c2)).cell? ⟨w.heap.size, 2, none⟩ = some (.int .i64 x.kind)) ∧ (((((W.setCell ⟨p, qs.length * 4, none⟩ (Sv x.fr)).setCell ⟨p, qs.length * 4 + 1, none⟩ (.int .u64 (x.ser : Int))).setCell ⟨p, qs.length * 4 + 2, none⟩ (.int .i64 x.kind)).setCell ⟨p, qs.length * 4 + 3, none⟩ (.slice a2 x.args.length c2)).cell? ⟨w.heap.size, 3, none⟩ = some (.slice a x.args.length c)))) := fun W a2 c2 k => by
    have hpl := HB.out.lt
    have := HS.out W k
    rw [put4_cell _ _ _ _ _ _ _ (by intro _; simp; omega), put4_cell _ _ _ _ _ _ _ (by simp; omega), put4_cell _ _ _ _ _ _ _ (by simp; omega), put4_cell _ _ _ _ _ _ _ (by simp; omega), put4_cell _ _ _ _ _ _ _ (by simp; omega)]
    exact this
   have hi0 : (0 : Int) ≤ (qs.length : Int) := by omega
   have hi1 : (qs.length : Int) < 8 := by omega
   have HC := Hid.mk (copy17 x a c (HX.out.kept kd (by simp)) (by omega) (by omega))
   have HKD := Hid.mk kd
   clear hB2 hbd hb1 hb0 k0 k1 hz0 kd
   go_wp2_with fail
   go_region_held3 (fun W => W.cell? ⟨p, 32, none⟩ = some (.int .i64 (qs.length : Int)) ∧ W.cell? ⟨w.heap.size, 0, none⟩ = some (Sv x.fr) ∧ W.cell? ⟨w.heap.size, 1, none⟩ = some (.int .u64 (x.ser : Int)) ∧ W.cell? ⟨w.heap.size, 2, none⟩ = some (.int .i64 x.kind) ∧ W.cell? ⟨w.heap.size, 3, none⟩ = some (.slice a x.args.length c)) (first | exact S0 | exact S1 | exact HP.out _ _ _ k2) (first | (go_at_call 75; refine HC.out.mono ?_; rintro e w2 ⟨a2, c2, rfl, hO2, k2, hf2⟩; have S1 := HS.out _ k2; obtain ⟨⟨j0, j1, j2, j3⟩, f0, f1, f2, f3⟩ := HD.out _ k2))
   clear S0 S1 j0 j1 j2 j3 f0 f1 f2 f3
   have hB3 := HB.out.kept0 (HKD.out.trans k2 (by simp))
   have hcc : ∀ v0 v1 v2 v3, (((((cellsB qs).set (qs.length * 4) v0).set (qs.length * 4 + 1) v1).set (qs.length * 4 + 2) v2).set (qs.length * 4 + 3) v3)[32]? = some (.int .i64 (qs.length : Int)) := fun v0 v1 v2 v3 => by
    rw [List.getElem?_set_ne (by omega), List.getElem?_set_ne (by omega), List.getElem?_set_ne (by omega), List.getElem?_set_ne (by omega)]
    exact cellsB_count hB3.len
   obtain ⟨W3, e3, k3, h3, hz3⟩ := putL (o := qs.length * 4) hB3.box (Sv x.fr) (.int .u64 (x.ser : Int)) (.int .i64 x.kind) (.slice a2 x.args.length c2)
   have hc3 : W3.cell? ⟨p, 32, none⟩ = some (.int .i64 (qs.length : Int)) := by
    unfold World.cell?
    rw [h3]
    simpa using hcc _ _ _ _
   have hf3 : W3.frozen? ⟨p, 32, none⟩ = false := by simp [World.frozen?, h3]
   have h4 := set_list (k := 32) (x := .int .i64 ((qs.length + 1 : Nat) : Int)) h3
   rw [cellsB_push qs ⟨x, a2, c2⟩ h8'] at h4
   have k4 := k3.setCell (p := ⟨p, 32, none⟩) (.inl (by simp)) (.int .i64 ((qs.length + 1 : Nat) : Int))
   have kA : Kept [p] w _ := (HKD.out.trans k2 (by simp)).mono (by simp) |>.trans k4 (by simp)
   have hB4 : IsB (W3.setCell ⟨p, 32, none⟩ (.int .i64 ((qs.length + 1 : Nat) : Int))) p (qs ++ [⟨x, a2, c2⟩]) := by
    refine ⟨h4, by simp; omega, fun q hq => ?_, fun q hq => ?_⟩
    ·rcases List.mem_append.1 hq with h | h
     ·exact hB3.good q h
     ·simp at h; subst h; exact ⟨hok, HF.out⟩
    ·have : OwnsJ w2 q.sl q.x.args := by
      rcases List.mem_append.1 hq with h | h
      ·exact hB3.args q h
      ·simp at h; subst h; exact hO2
     exact this.kept k4 (fun g hg hm => by simp at hm; subst hm; exact ownsJ_ne this hB3.box (by decide) hg)
   have hfr : Fresh w (.slice a2 x.args.length c2) := fun g hg => by have := hf2 g hg; have := HKD.out.size; omega
   have HR := Hid.mk (H3.out _ a2 c2 HF.out H8.out hB4 kA hfr)
   rw [e3]
   clear hB4 kA hfr k4 h4 h3 hcc hB3 e3 k3 hz3
   go_wp2_with fail
   exact HR.out
end
end Go.Proofs.YtngnenbidpojeaaGreatDoor
