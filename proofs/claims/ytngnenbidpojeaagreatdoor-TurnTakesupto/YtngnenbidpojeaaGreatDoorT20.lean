import Derived.Test.YtngnenbidpojeaaGreatDoorT16
import Derived.Test.YtngnenbidpojeaaGreatDoorT18
import Derived.Test.YtngnenbidpojeaaGreatDoorT19
/-
 Of: both actors, made of letters, sends, events, tries and poison; the poison in memory of its own.
-/
namespace Go.Proofs.YtngnenbidpojeaaGreatDoor
set_option maxRecDepth 100000
open Go.RowKit
set_option linter.unusedVariables false
section
variable {w0 w w' : World} {P : Pt} {t s : Int} {v u : Value} {a b : Ac}
theorem both_sendP' (T : Both w0 w P t v s u a b) (to : List UInt8) (kind : Int) (args : List Int) (ad : Option Addr) (c : Nat) (hx : OwnsJ w (.slice ad args.length c) args) (hto : to.length ≤ 10000) (hn : args.length ≤ 1000) (hk : I64 kind) (ha : ∀ z ∈ args, I64 z) {B : Nat} (hB : SerB a.out B) (h6 : B < 4611686018427387904) :
  Calls Tryz.prog 26 #[Ptr P.o, Sv to, .int .i64 kind, .slice ad args.length c] w fun e w' => (∃ r y, e = .returned (.tuple #[r, y])) ∧ Both w0 w' P t v s u (sendAc a to kind args) b := by
 have T0 := T
 obtain ⟨hpa, hfa, hk0, ga, gb⟩ := T
 obtain ⟨h1, h2, ⟨qs, h3, h4⟩, ⟨ys, h5, h6'⟩, h7, h8, h9, h10⟩ := hpa
 have g := ga.out
 have hown : (!a.out.own.isEmpty) = true := by have := g.ne.1; cases h : a.out.own with | nil => exact absurd h this | cons _ _ => rfl
 have hyl : ys.length = a.out.L.length := by rw [← h6', List.length_map]
 by_cases hc : isKey to = true ∧ args.length ≤ 4 ∧ a.out.L.length ≠ 32 ∧ (hasK a.out.K to = true ∨ a.out.K.length ≠ 64)
 ·have hln := g.ln
  have hkn := g.kn
  have hse := hB.le to
  have h64 : hasK a.out.K to = true ∨ a.out.K.length < 64 := by rcases hc.2.2.2 with h | h; exact .inl h; right; omega
  have he : sndO a.out to kind args = sendO a.out to kind args := by unfold sndO; rw [if_pos hc]
  have gs := g.snd hB h6 (to := to) hk ha
  refine (send20_ok h5 g.rise g.ne.1 (by have := g.ne.2; omega) to ⟨a.out.own, ser a.out.K to + 1, kind, args⟩ ad c hc.1 hc.2.1 (fun W kW => (hx.kept kW (fun g hg hm => by
   simp at hm; subst hm
   obtain ⟨cs, hb⟩ := h5.bx
   exact ownsJ_ne hx hb (by decide) hg)).reads) rfl rfl (by omega) h64 (by omega)).mono ?_
  rintro e w1 ⟨rfl, a1, c1, hO1, k1, -⟩
  have T1 := TT.ofO h5 h10 k1
  refine ⟨⟨_, _, rfl⟩, ⟨⟨T1.box h1 (by decide), T1.isJ h2 (by decide), ⟨qs, T1.isB h3 (by decide) (by decide), h4⟩, ⟨ys ++ [⟨to, ⟨a.out.own, ser a.out.K to + 1, kind, args⟩, a1, c1⟩], ?_, ?_⟩, h7, h8, h9, h10⟩, hfa.turn T1 (by decide), T1.kept0 hk0, ⟨ga.j, ga.i8, ga.inb, gs, ga.poi⟩, gb⟩⟩
  ·show IsO w1 P.o (sndO a.out to kind args).own (sndO a.out to kind args).K _
   rw [he]
   exact hO1
  ·show _ = (sndO a.out to kind args).L
   rw [he]
   simp [sendO, h6', ot]
 ·have he : sndO a.out to kind args = a.out := by unfold sndO; rw [if_neg hc]
  have hA : sendAc a to kind args = a := by unfold sendAc; rw [he]
  rw [hA]
  by_cases hr : isKey to = false ∨ 4 < args.length
  ·refine (send20_arg to kind ad args.length c _ (by omega) true (by have := owned34 h5; rwa [hown] at this) (by omega) (.inr hr)).mono ?_
   rintro e w1 ⟨rfl, rfl⟩
   exact ⟨⟨_, _, rfl⟩, T0⟩
  ·have hkey : isKey to = true := by cases h : isKey to with | true => rfl | false => exact absurd (.inl h) hr
   have h4' : args.length ≤ 4 := by have : ¬ 4 < args.length := fun h => hr (.inr h); omega
   refine (send20_full h5 g.rise g.ne.1 to kind ad args.length c hkey h4' ?_).mono ?_
   ·rw [hyl]
    by_cases h32 : a.out.L.length = 32
    ·exact .inl h32
    ·right
     by_cases h64 : a.out.K.length = 64
     ·cases hh : hasK a.out.K to with
      | true => exact absurd ⟨hkey, h4', h32, .inl hh⟩ hc
      | false => exact ⟨rfl, h64⟩
     ·exact absurd ⟨hkey, h4', h32, .inr h64⟩ hc
   ·rintro e w1 ⟨rfl, k1⟩
    exact ⟨⟨_, _, rfl⟩, T0.kept0 k1⟩
theorem both_sendF' (T : Both w0 w P t v s u a b) (to : List UInt8) (kind : Int) (args : List Int) (ad : Option Addr) (c : Nat) (hx : OwnsJ w (.slice ad args.length c) args) (hto : to.length ≤ 10000) (hn : args.length ≤ 1000) (hk : I64 kind) (ha : ∀ z ∈ args, I64 z) {B : Nat} (hB : SerB b.out B) (h6 : B < 4611686018427387904) :
  Calls Tryz.prog 27 #[Ptr P.fo, Sv to, .int .i64 kind, .slice ad args.length c] w fun e w' => (∃ r y, e = .returned (.tuple #[r, y])) ∧ Both w0 w' P t v s u a (sendAc b to kind args) := by
 have T0 := T
 obtain ⟨hpa, hfa, hk0, ga, gb⟩ := T
 obtain ⟨h1, ⟨u1, h2, h3⟩, ⟨u2, qs, h4, h5⟩, ⟨u3, x3, ys, h6', h7⟩, h8, h9⟩ := hfa
 have g := gb.out
 have hyl : ys.length = b.out.L.length := by rw [← h7, List.length_map]
 have hln := g.ln
 have hkn := g.kn
 by_cases hc : isKey to = true ∧ args.length ≤ 4 ∧ b.out.L.length ≠ 32 ∧ (hasK b.out.K to = true ∨ b.out.K.length ≠ 64)
 ·have hse := hB.le to
  have h64 : hasK b.out.K to = true ∨ b.out.K.length < 64 := by rcases hc.2.2.2 with h | h; exact .inl h; right; omega
  have he : sndO b.out to kind args = sendO b.out to kind args := by unfold sndO; rw [if_pos hc]
  have gs := g.snd hB h6 (to := to) hk ha
  refine (send29_ok h6' hkn hk0.size to ⟨b.out.own, ser b.out.K to + 1, kind, args⟩ ad c hc.1 hc.2.1 (fun W kW => (hx.kept kW (fun g hg hm => by
   obtain ⟨S, kS, hS⟩ := TT.ofFO h6' kW
   rcases mem_footF.1 hm with e | e | e
   ·subst e; exact ownsJ_ne hx h6'.box (by decide) hg
   ·exact own_apart hx h6'.ys.own (by decide) hg e
   ·exact own_apart hx h6'.ks (by decide) hg e)).reads) rfl rfl (by omega) h64 (by omega)).mono ?_
  rintro e w1 ⟨rfl, v', u', a1, c1, hF1, k1⟩
  have T1 := TT.ofFO h6' k1
  refine ⟨⟨_, _, rfl⟩, ⟨hpa.turn T1 (by decide), ⟨T1.box h1 (by decide), ⟨u1, T1.isFJ h2 (by decide) (by decide), h3⟩, ⟨u2, qs, T1.isFI h4 (by decide) (by decide) (by decide), h5⟩, ⟨v', u', ys ++ [⟨to, ⟨b.out.own, ser b.out.K to + 1, kind, args⟩, a1, c1⟩], ?_, ?_⟩, h8, h9⟩, T1.kept0 hk0, ga, ⟨gb.j, gb.i8, gb.inb, gs, gb.poi⟩⟩⟩
  ·show IsF w0 w1 P.fo v' u' (sndO b.out to kind args).own (sndO b.out to kind args).K _
   rw [he]
   exact hF1
  ·show _ = (sndO b.out to kind args).L
   rw [he]
   simp [sendO, h7, ot]
 ·have he : sndO b.out to kind args = b.out := by unfold sndO; rw [if_neg hc]
  have hA : sendAc b to kind args = b := by unfold sendAc; rw [he]
  rw [hA]
  by_cases hr : isKey to = false ∨ 4 < args.length
  ·refine (send29_arg to kind ad args.length c _ (by omega) (by omega) hr).mono ?_
   rintro e w1 ⟨rfl, rfl⟩
   exact ⟨⟨_, _, rfl⟩, T0⟩
  ·have hkey : isKey to = true := by cases h : isKey to with | true => rfl | false => exact absurd (.inl h) hr
   have h4' : args.length ≤ 4 := by have : ¬ 4 < args.length := fun h => hr (.inr h); omega
   refine (send29_full h6' hkn (by omega) to kind ad args.length c hkey h4' ?_).mono ?_
   ·rw [hyl]
    by_cases h32 : b.out.L.length = 32
    ·exact .inl h32
    ·right
     by_cases h64 : b.out.K.length = 64
     ·cases hh : hasK b.out.K to with
      | true => exact absurd ⟨hkey, h4', h32, .inl hh⟩ hc
      | false => exact ⟨rfl, h64⟩
     ·exact absurd ⟨hkey, h4', h32, .inr h64⟩ hc
   ·rintro e w1 ⟨rfl, rfl⟩
    exact ⟨⟨_, _, rfl⟩, T0⟩
end
section
variable {w : World}
set_option maxHeartbeats 8000000 in
theorem of9 {key : List UInt8} {a1 a2 a5 : Option Addr} {n1 c1 n2 c2 n5 c5 : Nat} {x : Value} {ls ps : List Lq} {ts : List (List UInt8)} {es : List Ep} {tr : Int}
  (hkey : isKey key = true) (hl : LetsIn w (.slice a1 n1 c1) ls) (ht : TextsIn w (.slice a2 n2 c2) ts) (he : EvsIn w x es) (hp : LetsIn w (.slice a5 n5 c5) ps)
  (b1 : n1 ≤ 10000) (b2 : n2 ≤ 10000) (b3 : es.length ≤ 1000) (b5 : n5 ≤ 10000) (bt : ∀ t ∈ ts, t.length ≤ 10000) (bp : ∀ q ∈ ps, q.x.args.length ≤ 10000) :
  Calls Tryz.prog 9 #[Sv key, .slice a1 n1 c1, .slice a2 n2 c2, x, .int .i64 tr, .slice a5 n5 c5] w fun e w' => ∃ P v u, e = .returned (.tuple #[Ptr P.p, Ptr P.f]) ∧ Both w w' P tr v tr u (ofA key ls ts es tr (ps.map (·.x))) (ofA key ls ts es tr (ps.map (·.x))) ∧ PoiO w' v (ps.map (·.x)) ∧ PoiO w' u (ps.map (·.x)) := by
 obtain ⟨hn1, hc1, hc1'⟩ := hl.1.bound
 obtain ⟨hn2, hc2, hc2'⟩ := ht.bound
 obtain ⟨hn5, hc5, hc5'⟩ := hp.1.bound
 obtain ⟨a3, c3, rfl, hc3, hc3'⟩ := rowE_form he.1
 have HL := Hid.mk hl
 have HT := Hid.mk ht
 have HE := Hid.mk he
 have HP := Hid.mk hp
 have HN := Hid.mk (And.intro hn1 (And.intro hn2 hn5))
 have HBT := Hid.mk bt
 have HBP := Hid.mk bp
 clear hl ht he hp hn1 hn2 hn5 bt bp
 generalize hn3 : es.length = n3 at *
 have HN3 := Hid.mk hn3
 clear hn3
 have H13 := Hid.mk (new13 (w0 := w) (w := w) key hkey (Nat.le_refl _))
 go_enter Tryz.func9, Tryz.ntmps9
 go_wp2_with fail
 refine H13.out.mono ?_
 rintro e w1 ⟨p, pj, pi, po, rfl, hpa, k1⟩
 have H50 := Hid.mk (new50 (w0 := w) (w := w1) key hkey k1.size)
 clear H13
 have HPA := Hid.mk hpa
 have HK1 := Hid.mk k1
 clear hpa k1
 go_wp2_with fail
 refine H50.out.mono ?_
 rintro e w2 ⟨f, fj, fi, fo, rfl, hfa, k2⟩
 have hg : GoodP (newA key) := (GoodA.new hkey).toGoodP
 have HB : Hid (Both w w2 ⟨p, pj, pi, po, f, fj, fi, fo⟩ 0 (.slice none 0 0) 0 (.slice none 0 0) (newA key) (newA key)) := Hid.mk ⟨HPA.out.kept0 k2, hfa, HK1.out.trans k2 (by simp), hg, hg⟩
 clear hfa k2 H50 HPA HK1 hg
 generalize hP : (⟨p, pj, pi, po, f, fj, fi, fo⟩ : Pt) = P at HB
 obtain ⟨e1, e2⟩ : p = P.p ∧ f = P.f := by rw [← hP]; exact ⟨rfl, rfl⟩
 rw [e1, e2]
 clear e1 e2 hP
 clear p pj pi po f fj fi fo
 go_wp2_with fail
 go_loopw [44] (fun i wr => ∃ k : Nat, i = .int .i64 (k : Int) ∧ k ≤ n1 ∧ Hid (Both w wr P 0 (.slice none 0 0) 0 (.slice none 0 0) (pushK (newA key) ls k) (pushK (newA key) ls k))) (fun i _ => n1 - (intOf i).toNat)
 case atStart => exact ⟨0, rfl, by omega, HB⟩
 case round =>
  obtain ⟨k, rfl, hk, H⟩ := hrel
  clear HB
  by_cases hlt : k < n1
  ·obtain ⟨q, hq⟩ : ∃ q, ls[k]? = some q := ⟨_, List.getElem?_eq_getElem (by have := HN.out.1; omega)⟩
   have hqm := List.mem_of_getElem? hq
   have hd := H.out.kept0 (Kept.refl [] wr).drew
   obtain ⟨b, o, rfl, -⟩ := HL.out.1.at hq
   have HS : Hid (∀ W t v s u a c, Both w W P t v s u a c → W.cell? ⟨P.p, 1, none⟩ = some (Ptr P.i) ∧ W.cell? ⟨P.f, 1, none⟩ = some (Ptr P.fi) ∧ W.cell? ⟨b, o + k * 4, none⟩ = some (Sv q.x.fr) ∧ W.cell? ⟨b, o + k * 4 + 1, none⟩ = some (.int .u64 (q.x.ser : Int)) ∧ W.cell? ⟨b, o + k * 4 + 2, none⟩ = some (.int .i64 q.x.kind) ∧ W.cell? ⟨b, o + k * 4 + 3, none⟩ = some q.sl) := Hid.mk fun W t v s u a c T => by
    obtain ⟨b', o', e', h1, h2, h3, h4⟩ := (HL.out.1.kept T.k (by simp)).at hq
    injection e' with e'
    injection e' with e1 e2
    subst e1 e2
    exact ⟨T.cellsP.2.1, T.cellsF.2.1, h1, h2, h3, h4⟩
   have S0 := HS.out _ _ _ _ _ _ _ hd
   have hJ := HL.out.2.1 q hqm
   have hok := HL.out.2.2 q hqm
   have HC := Hid.mk (both_pushP hd q.x q.ad q.cap (hJ.kept hd.k (by simp)) hok)
   have HX : Hid (ReadsJ w q.sl q.x.args ∧ q.x.ok ∧ ls[k]? = some q ∧ ls.getD k default = q) := Hid.mk ⟨hJ, hok, hq, getD_at hq _⟩
   have hkI : (k : Int) < (n1 : Int) := by omega
   clear hJ hok hq hqm hd H
   go_wp2_with fail
   go_region_held3 (fun V => V.cell? ⟨P.p, 1, none⟩ = some (Ptr P.i) ∧ V.cell? ⟨P.f, 1, none⟩ = some (Ptr P.fi) ∧ V.cell? ⟨b, o + k * 4, none⟩ = some (Sv q.x.fr) ∧ V.cell? ⟨b, o + k * 4 + 1, none⟩ = some (.int .u64 (q.x.ser : Int)) ∧ V.cell? ⟨b, o + k * 4 + 2, none⟩ = some (.int .i64 q.x.kind) ∧ V.cell? ⟨b, o + k * 4 + 3, none⟩ = some q.sl) (first | with_reducible exact S0 | with_reducible exact HS.out _ _ _ _ _ _ _ HT3.out) (first | (go_at_call 22; refine HC.out.mono ?_; rintro e w3 ⟨⟨r3, rfl⟩, t3⟩; have HT3 := Hid.mk t3; clear t3))
   clear S0 HC
   have hd3 := HT3.out.kept0 (Kept.refl [] w3).drew
   have S3 := HS.out _ _ _ _ _ _ _ hd3
   have HC := Hid.mk (both_pushF hd3 q.x q.ad q.cap (HX.out.1.kept hd3.k (by simp)) HX.out.2.1)
   clear hd3 HT3
   go_wp2_with fail
   go_region_held3 (fun V => V.cell? ⟨P.p, 1, none⟩ = some (Ptr P.i) ∧ V.cell? ⟨P.f, 1, none⟩ = some (Ptr P.fi) ∧ V.cell? ⟨b, o + k * 4, none⟩ = some (Sv q.x.fr) ∧ V.cell? ⟨b, o + k * 4 + 1, none⟩ = some (.int .u64 (q.x.ser : Int)) ∧ V.cell? ⟨b, o + k * 4 + 2, none⟩ = some (.int .i64 q.x.kind) ∧ V.cell? ⟨b, o + k * 4 + 3, none⟩ = some q.sl) (first | with_reducible exact S3 | with_reducible exact HS.out _ _ _ _ _ _ _ HT4.out) (first | (go_at_call 25; refine HC.out.mono ?_; rintro e w4 ⟨⟨r4, rfl⟩, t4⟩; have HT4 := Hid.mk t4; clear t4))
   have H5 : Hid (Both w w4 P 0 (.slice none 0 0) 0 (.slice none 0 0) (pushK (newA key) ls (k + 1)) (pushK (newA key) ls (k + 1))) := by
    have e : pushK (newA key) ls (k + 1) = pushAc (pushK (newA key) ls k) q.x := by rw [pushK, HX.out.2.2.2]
    rw [e]
    exact HT4
   clear S3 HC HT4 HS HX
   go_wp2_with fail
   go_roundw
   case rel => exact ⟨k + 1, by go_num, by omega, H5⟩
   case measure => simp [intOf]; omega
  ·obtain rfl : k = n1 := by omega
   have hkI : ((k : Int) < (k : Int)) = False := eq_false (by omega)
   have e1 : ls.length = k := HN.out.1.symm
   obtain ⟨A1, hA1⟩ : ∃ A, Hid (pushK (newA key) ls k = A) := ⟨_, Hid.mk rfl⟩
   have HA : Hid (pushK (newA key) ls ls.length = A1 ∧ SerB A1.out 0 ∧ A1.j.ver = 0) := Hid.mk (by
    rw [e1, hA1.out, ← hA1.out]
    refine ⟨rfl, ?_, ?_⟩
    ·rw [(pushK_j _ _ _).2]; intro y hy; simp [newA] at hy
    ·rw [(pushK_j _ _ _).1]; rfl)
   rw [hA1.out] at H
   clear hA1 e1
   go_wp2_with fail
   go_loopw [68] (fun i wr => ∃ k : Nat, i = .int .i64 (k : Int) ∧ k ≤ n2 ∧ Hid (Both w wr P 0 (.slice none 0 0) 0 (.slice none 0 0) (sendK A1 ts k) (sendK A1 ts k))) (fun i _ => n2 - (intOf i).toNat)
   case atStart => exact ⟨0, rfl, by omega, H⟩
   case round =>
    obtain ⟨m, rfl, hm, H1⟩ := hrel
    clear H
    by_cases hlt : m < n2
    ·obtain ⟨t, hq⟩ : ∃ t, ts[m]? = some t := ⟨_, List.getElem?_eq_getElem (by have := HN.out.2.1; omega)⟩
     obtain ⟨b, o, rfl, -⟩ := HT.out.at hq
     have HS : Hid (∀ W t' v s u a c, Both w W P t' v s u a c → W.cell? ⟨P.p, 2, none⟩ = some (Ptr P.o) ∧ W.cell? ⟨P.f, 2, none⟩ = some (Ptr P.fo) ∧ W.cell? ⟨b, o + m, none⟩ = some (Sv t)) := Hid.mk fun W t' v s u a c T => by
      obtain ⟨b', o', e', h1⟩ := (HT.out.kept0 T.k).at hq
      injection e' with e'
      injection e' with e1 e2
      subst e1 e2
      exact ⟨T.cellsP.2.2.1, T.cellsF.2.2.1, h1⟩
     have hd := H1.out.kept0 (Kept.refl [] wr).drew
     have S0 := HS.out _ _ _ _ _ _ _ hd
     have hto := HBT.out t (List.mem_of_getElem? hq)
     have HX : Hid (t.length ≤ 10000 ∧ ts.getD m [] = t ∧ SerB (sendK A1 ts m).out m) := Hid.mk ⟨hto, getD_at hq _, sendK_ser HA.out.2.1 ts m⟩
     have hmI : (m : Int) < (n2 : Int) := by omega
     have HC : Hid (∀ W, W = wr.drew.alloc (.cells #[.int .i64 (m : Int)] 2) → Calls Tryz.prog 26 #[Ptr P.o, Sv t, .int .i64 (m : Int), .slice (some ⟨wr.drew.heap.size, 0, none⟩) 1 1] W fun e w' => (∃ r y, e = .returned (.tuple #[r, y])) ∧ Both w w' P 0 (.slice none 0 0) 0 (.slice none 0 0) (sendAc (sendK A1 ts m) t m [(m : Int)]) (sendK A1 ts m)) := Hid.mk fun W eW => by
      subst eW
      have hd' := hd.kept0 ((Kept.refl [] wr.drew).alloc (.cells #[.int .i64 (m : Int)] 2))
      exact both_sendP' hd' t m [(m : Int)] _ 1 (ownsJ_one wr.drew m) hto (by simp) (by unfold I64; omega) (by intro z hz; simp at hz; subst hz; unfold I64; omega) HX.out.2.2 (by omega)
     have HD := Hid.mk hd
     clear hq hto hd H1
     go_wp2_with fail
     go_region_held3 (fun V => V.cell? ⟨P.p, 2, none⟩ = some (Ptr P.o) ∧ V.cell? ⟨P.f, 2, none⟩ = some (Ptr P.fo) ∧ V.cell? ⟨b, o + m, none⟩ = some (Sv t)) (first | with_reducible exact S0 | with_reducible exact HS.out _ _ _ _ _ _ _ HT3.out | exact HS.out _ _ _ _ _ _ _ (HD.out.kept0 ((Kept.refl [] _).alloc _))) (first | (go_at_call 26; refine (HC.out _ rfl).mono ?_; rintro e w3 ⟨⟨r3, y3, rfl⟩, t3⟩; have HT3 := Hid.mk t3; clear t3))
     clear S0 HC HD
     have hd := HT3.out.kept0 (Kept.refl [] w3).drew
     have S3 := HS.out _ _ _ _ _ _ _ hd
     have HC : Hid (∀ W, W = w3.drew.alloc (.cells #[.int .i64 (m : Int)] 2) → Calls Tryz.prog 27 #[Ptr P.fo, Sv t, .int .i64 (m : Int), .slice (some ⟨w3.drew.heap.size, 0, none⟩) 1 1] W fun e w' => (∃ r y, e = .returned (.tuple #[r, y])) ∧ Both w w' P 0 (.slice none 0 0) 0 (.slice none 0 0) (sendAc (sendK A1 ts m) t m [(m : Int)]) (sendAc (sendK A1 ts m) t m [(m : Int)])) := Hid.mk fun W eW => by
      subst eW
      have hd' := hd.kept0 ((Kept.refl [] w3.drew).alloc (.cells #[.int .i64 (m : Int)] 2))
      exact both_sendF' hd' t m [(m : Int)] _ 1 (ownsJ_one w3.drew m) HX.out.1 (by simp) (by unfold I64; omega) (by intro z hz; simp at hz; subst hz; unfold I64; omega) HX.out.2.2 (by omega)
     have HD := Hid.mk hd
     clear hd HT3
     go_wp2_with fail
     go_region_held3 (fun V => V.cell? ⟨P.p, 2, none⟩ = some (Ptr P.o) ∧ V.cell? ⟨P.f, 2, none⟩ = some (Ptr P.fo) ∧ V.cell? ⟨b, o + m, none⟩ = some (Sv t)) (first | with_reducible exact S3 | with_reducible exact HS.out _ _ _ _ _ _ _ HT4.out | exact HS.out _ _ _ _ _ _ _ (HD.out.kept0 ((Kept.refl [] _).alloc _))) (first | (go_at_call 27; refine (HC.out _ rfl).mono ?_; rintro e w4 ⟨⟨r4, y4, rfl⟩, t4⟩; have HT4 := Hid.mk t4; clear t4))
     have H5 : Hid (Both w w4 P 0 (.slice none 0 0) 0 (.slice none 0 0) (sendK A1 ts (m + 1)) (sendK A1 ts (m + 1))) := by
      have e : sendK A1 ts (m + 1) = sendAc (sendK A1 ts m) t m [(m : Int)] := by rw [sendK, HX.out.2.1]
      rw [e]
      exact HT4
     clear S3 HC HT4 HS HX HD
     go_wp2_with fail
     go_roundw
     case rel => exact ⟨m + 1, by go_num, by omega, H5⟩
     case measure => simp [intOf]; omega
    ·obtain rfl : m = n2 := by omega
     have hmI : ((m : Int) < (m : Int)) = False := eq_false (by omega)
     have e2 : ts.length = m := HN.out.2.1.symm
     obtain ⟨A2, hA2⟩ : ∃ A, Hid (sendK A1 ts m = A) := ⟨_, Hid.mk rfl⟩
     have HA2 : Hid (sendK (pushK (newA key) ls ls.length) ts ts.length = A2 ∧ A2.j.ver = 0) := Hid.mk (by
      rw [HA.out.1, e2, hA2.out, ← hA2.out]
      exact ⟨rfl, by rw [(sendK_j _ _ _).1]; exact HA.out.2.2⟩)
     rw [hA2.out] at H1
     clear hA2 e2 HA
     obtain ⟨W2, rfl⟩ : ∃ W2, W2 = wr := ⟨_, rfl⟩
     go_wp2_with fail
     go_loopw [98, 20] (fun i u w9 => ∃ k : Nat, i = .int .i64 (k : Int) ∧ k ≤ n3 ∧ Hid (OutE 92 W2 w9 u (es.take k))) (fun i _ _ => n3 - (intOf i).toNat)
     case atStart => exact ⟨0, rfl, by omega, Hid.mk (OutE.nil 92 W2)⟩
     case round =>
      obtain ⟨j, rfl, hj, H⟩ := hrel
      obtain ⟨a', c', rfl⟩ := H.out.form
      have htk : (es.take j).length = j := by rw [List.length_take]; have := HN3.out; omega
      rw [htk] at H ⊢
      by_cases hlt : j < n3
      ·obtain ⟨y, hy⟩ : ∃ y, es[j]? = some y := ⟨_, List.getElem?_eq_getElem (by have := HN3.out; omega)⟩
       obtain ⟨b, o, rfl, d0, d1⟩ := rowE_at (ReadsR.kept HE.out.1 (H1.out.k.trans H.out.2.2 (by simp)) (by simp)) hy
       have hjI : (j : Int) < (n3 : Int) := by omega
       obtain ⟨ad2, c2, w2, hrun, hO2⟩ := H.out.more rt40 (by omega) y
       rw [htk] at hrun hO2
       have HR2 : Hid (OutE 92 W2 w2 (.slice ad2 (j + 1) c2) (es.take (j + 1))) := by rw [List.take_add_one, hy]; exact Hid.mk hO2
       clear hy H hO2 htk
       go_wp2_with (at_builtin; refine wpList_append_run 90 90 (.tmp 101) (.tmp 106) rfl (by rfl) _ _ rfl rfl _ _ hrun ?_)
       go_roundw
       case rel => exact ⟨j + 1, by go_num, by omega, HR2⟩
       case measure => simp [intOf]; omega
      ·obtain rfl : j = n3 := by omega
       have hjI : ((j : Int) < (j : Int)) = False := eq_false (by omega)
       have HB : Hid (OutE 92 W2 wr (.slice a' j c') es) := by
        have := H.out
        rwa [List.take_of_length_le (by rw [HN3.out]; exact Nat.le_refl _)] at this
       have hd := H1.out.kept0 HB.out.2.2
       have g1 := hd.cellsP.1
       have HC := Hid.mk (both_addP hd HB.out.1 HE.out.2 (by have := HN3.out; omega) (by rw [HA2.out.2]; have := HN3.out; omega))
       clear hd H H1 HB htk
       go_wp2_with fail
       refine HC.out.mono ?_
       rintro e w3 ⟨⟨r3, rfl⟩, t3⟩
       have g2 := t3.cellsF.1
       have HC2 := Hid.mk (both_addF t3 HE.out (by have := HN3.out; omega) (by rw [HA2.out.2]; have := HN3.out; omega))
       clear t3 HC g1
       go_wp2_with fail
       refine HC2.out.mono ?_
       rintro e w4 ⟨⟨r4, rfl⟩, t4⟩
       obtain ⟨-, -, -, q1, -⟩ := t4.cellsP
       obtain ⟨-, -, -, q2, -⟩ := t4.cellsF
       have z1 := t4.freeP 3
       have z2 := t4.freeF 3
       have T5 := t4.setP3 tr
       obtain ⟨-, -, -, q3, -⟩ := T5.cellsF
       have z3 := T5.freeF 3
       have HT6 := Hid.mk (T5.setF3 tr)
       clear t4 HC2 g2 T5
       go_wp2_with fail
       generalize (w4.setCell ⟨P.p, 3, none⟩ (Iv tr)).setCell ⟨P.f, 3, none⟩ (Iv tr) = w6 at HT6 ⊢
       clear q1 q2 q3 z1 z2 z3
       have HP6 := Hid.mk (copyAll57 (HP.out.1.kept HT6.out.k (by simp)) (HP.out.2.1.kept0 HT6.out.k) (by omega) (fun q hq => by have := HBP.out q hq; omega))
       refine HP6.out.mono ?_
       rintro e w7 ⟨v7, rfl, qs7, hO7, hm7, k7⟩
       obtain ⟨av7, cv7, rfl, -, -⟩ := hO7.row.form
       have T7 := HT6.out.kept0 k7
       have HP7 := Hid.mk (copyAll57 (HP.out.1.kept T7.k (by simp)) (HP.out.2.1.kept0 T7.k) (by omega) (fun q hq => by have := HBP.out q hq; omega))
       have HO7 : Hid (OwnL w6 w7 (.slice av7 qs7.length cv7) qs7 ∧ qs7.map (·.x) = ps.map (·.x)) := Hid.mk ⟨hO7, hm7⟩
       have HT7 := Hid.mk T7
       clear HT6 HP6 T7 hO7 hm7 k7
       go_wp2_with fail
       refine HP7.out.mono ?_
       rintro e w8 ⟨v8, rfl, qs8, hO8, hm8, k8⟩
       obtain ⟨av8, cv8, rfl, -, -⟩ := hO8.row.form
       have T8 := HT7.out.kept0 k8
       obtain ⟨-, -, -, -, q1⟩ := T8.cellsP
       have z1 := T8.freeP 4
       have T9 := T8.setP4 (.slice av7 qs7.length cv7)
       obtain ⟨-, -, -, -, q2⟩ := T9.cellsF
       have z2 := T9.freeF 4
       have T10 := T9.setF4 (.slice av8 qs8.length cv8)
       have hO7' := ownL_set (i := 4) (x := (.slice av7 qs7.length cv7)) (HO7.out.1.kept0 k8) T8.pa.box (by decide) (by decide)
       have hO8' := ownL_set (i := 4) (x := (.slice av7 qs7.length cv7)) hO8 T8.pa.box (by decide) (by decide)
       have hO7'' := ownL_set (i := 4) (x := (.slice av8 qs8.length cv8)) hO7' T9.fa.box (by decide) (by decide)
       have hO8'' := ownL_set (i := 4) (x := (.slice av8 qs8.length cv8)) hO8' T9.fa.box (by decide) (by decide)
       have HR : Hid (Both w ((w8.setCell ⟨P.p, 4, none⟩ (.slice av7 qs7.length cv7)).setCell ⟨P.f, 4, none⟩ (.slice av8 qs8.length cv8)) P tr (.slice av7 qs7.length cv7) tr (.slice av8 qs8.length cv8) (ofA key ls ts es tr (ps.map (·.x))) (ofA key ls ts es tr (ps.map (·.x))) ∧ PoiO ((w8.setCell ⟨P.p, 4, none⟩ (.slice av7 qs7.length cv7)).setCell ⟨P.f, 4, none⟩ (.slice av8 qs8.length cv8)) (.slice av7 qs7.length cv7) (ps.map (·.x)) ∧ PoiO ((w8.setCell ⟨P.p, 4, none⟩ (.slice av7 qs7.length cv7)).setCell ⟨P.f, 4, none⟩ (.slice av8 qs8.length cv8)) (.slice av8 qs8.length cv8) (ps.map (·.x))) := by
        have e : ofA key ls ts es tr (ps.map (·.x)) = ⟨(addAc A2 es).j, (addAc A2 es).inb, (addAc A2 es).out, tr, ps.map (·.x)⟩ := by unfold ofA; rw [HA2.out.1]
        have g := T10.ga
        have hpo : ∀ y ∈ ps.map (·.x), Lt.ok y := fun y hy => by
         obtain ⟨q, hq, rfl⟩ := List.mem_map.1 hy
         exact HP.out.2.2 q hq
        rw [e]
        obtain ⟨h1, h2, h3, h4, h5⟩ := T10
        exact Hid.mk ⟨⟨⟨h1.box, h1.j, h1.i, h1.o, h1.hp, h1.hj, h1.hi, h1.ho⟩, ⟨h2.box, h2.j, h2.i, h2.o, h2.hf, h2.hj⟩, h3, ⟨h4.j, h4.i8, h4.inb, h4.out, hpo⟩, ⟨h5.j, h5.i8, h5.inb, h5.out, hpo⟩⟩, ⟨_, hO7''.own, hO7''.args, HO7.out.2⟩, ⟨_, hO8''.own, hO8''.args, hm8⟩⟩
       clear T8 T9 T10 hO7' hO7'' hO8' hO8'' hO8 hm8 k8 HP7 HO7 HT7
       go_wp2_with fail
       go_ret2
       exact ⟨P, (.slice av7 qs7.length cv7), .slice av8 qs8.length cv8, rfl, HR.out⟩
end
def FewAt_N (p : Pg) (e : Ending) : Prop := (e = .returned (.bool true) ∧ (∀ s ∈ p.names, s.length ≤ 1000) ∧ p.names.length ≤ 51 ∧ p.code.length ≤ 1000) ∨ e = .returned (.bool false)
section
variable {w : World}
set_option maxHeartbeats 1000000 in
theorem few9 {v u : Value} {p : Pg} (hP : IsP_N w v u p) (hK : ∀ s ∈ p.names, s.length ≤ 9223372036854775807) : Calls Tryz.prog 17 #[.agg #[v, u]] w fun e w' => FewAt_N p e ∧ Kept [] w w' := by
 obtain ⟨a, c, b, d, rfl, rfl, hl1, hl2⟩ := hP.form
 obtain ⟨W0, e0, k0, hz0, hb0⟩ := box1 w (.cells #[.slice a p.names.length c, .slice b p.code.length d] 25)
 obtain ⟨y0, y1⟩ := cells2_N hb0
 have HP := Hid.mk (hP.keep k0)
 have HK0 := Hid.mk k0
 have HKn := Hid.mk hK
 clear hP k0 hb0 hz0 hK
 go_enter Tryz.func17, Tryz.ntmps17
 go_wp2_with fail
 generalize w.heap.size = g at *
 go_loopw [7] (fun i wr => ∃ j : Nat, i = .int .i64 (j : Int) ∧ j ≤ p.names.length ∧ j ≤ 51 ∧ Hid (W0 = wr) ∧ Hid (∀ i (hi : i < p.names.length), i < j → p.names[i].length ≤ 1000)) (fun i _ => p.names.length - (intOf i).toNat)
 case atStart => exact ⟨0, rfl, by omega, by omega, Hid.mk rfl, Hid.mk (fun _ _ h => by omega)⟩
 case round =>
  obtain ⟨j, rfl, hj, hj51, HW, HJ⟩ := hrel
  obtain rfl := HW.out
  clear HW
  by_cases hlt : j < p.names.length
  ·obtain ⟨b1, o1, rfl, hc1⟩ := names_at HP.out.names hlt
   have hjI : (j : Int) < (p.names.length : Int) := by omega
   have hj0 : (0 : Int) ≤ (j : Int) := by omega
   have hz : (⟨p.names[j].toArray⟩ : ByteArray).size = p.names[j].length := by simp [ByteArray.size]
   have hm := HKn.out _ (List.getElem_mem hlt)
   have HT : Hid (p.names[j].length ≤ 1000 → ∀ i (hi : i < p.names.length), i < j + 1 → p.names[i].length ≤ 1000) := fun h i hi hij => by
    by_cases e : i = j
    ·subst e; exact h
    ·exact HJ.out i hi (by omega)
   clear HJ
   generalize p.names[j] = nm at *
   by_cases h1 : 1000 < nm.length
   ·have h1I : (1000 : Int) < (nm.length : Int) := by omega
    go_wp2_with fail
    go_ret
    exact ⟨.inr rfl, HK0.out⟩
   ·have h1I : ¬ (1000 : Int) < (nm.length : Int) := by omega
    by_cases h2 : 50 < j
    ·have h2I : (50 : Int) < (j : Int) := by omega
     go_wp2_with fail
     go_ret
     exact ⟨.inr rfl, HK0.out⟩
    ·have h2I : ¬ (50 : Int) < (j : Int) := by omega
     go_wp2_with fail
     go_roundw
     case rel => exact ⟨j + 1, by go_num, by omega, by omega, by trivial, Hid.mk (HT.out (by omega))⟩
     case measure => simp [intOf]; omega
  ·have hje : ¬ (j : Int) < (p.names.length : Int) := by omega
   by_cases h3 : p.code.length ≤ 1000
   ·have h3I : (p.code.length : Int) ≤ 1000 := by omega
    go_wp2_with fail
    go_ret
    refine ⟨.inl ⟨rfl, fun s hs => ?_, by omega, h3⟩, HK0.out⟩
    obtain ⟨i, hi, rfl⟩ := List.getElem_of_mem hs
    exact HJ.out i hi (by omega)
   ·have h3I : ¬ (p.code.length : Int) ≤ 1000 := by omega
    go_wp2_with fail
    go_ret
    exact ⟨.inr rfl, HK0.out⟩
end
structure Bs where
 w0 : World
 nv : Value
 cv : Value
 av : Value
 pg : Pg
 l : Lt
 now : Int
def Bs.fix (B : Bs) : List Value := [B.nv, B.cv, .string ⟨B.l.fr.toArray⟩, .int .u64 (B.l.ser : Int), .int .i64 B.l.kind, B.av, .int .i64 B.now]
structure Bs.Ok (B : Bs) : Prop where
 prog : IsP_N B.w0 B.nv B.cv B.pg
 args : ReadsR 1 B.w0 B.av (rowJ B.l.args)
def tyM : Ty := ⟨181, 92, 235, 194⟩
theorem tyM_ok : tyM.Ok := by unfold Ty.Ok tyM; decide
def preM (B : Bs) (pl : Int) (stk : List Int) (d : Int) : List Value := B.fix ++ (.int .i64 pl :: (BI_N stk ++ [.int .i64 d]))
section
variable {B : Bs} {pl d : Int} {stk : List Int}
theorem preM_length (hs : stk.length = 16) : (preM B pl stk d).length = 25 := by simp [preM, Bs.fix, BI_length_N, hs]
theorem preM_stk (hs : stk.length = 16) {i : Nat} {x : Int} (hi : stk[i]? = some x) : (preM B pl stk d)[8 + i]? = some (Iv_N x) := by
 have hl : i < (BI_N stk).length := by rw [BI_length_N]; exact (List.getElem?_eq_some_iff.1 hi).1
 unfold preM
 rw [List.getElem?_append_right (by simp [Bs.fix]; omega), show 8 + i - B.fix.length = i + 1 by simp [Bs.fix]; omega, List.getElem?_cons_succ, List.getElem?_append_left hl]
 exact BI_get_N hi
theorem preM_dep (hs : stk.length = 16) : (preM B pl stk d)[24]? = some (Iv_N d) := by
 unfold preM
 rw [List.getElem?_append_right (by simp [Bs.fix]), show 24 - B.fix.length = 16 + 1 by simp [Bs.fix], List.getElem?_cons_succ, List.getElem?_append_right (by rw [BI_length_N]; omega), BI_length_N, hs]
 rfl
theorem preM_set_stk (hs : stk.length = 16) {i : Nat} (hi : i < 16) (x : Int) : (preM B pl stk d).set (8 + i) (Iv_N x) = preM B pl (stk.set i x) d := by
 unfold preM
 rw [List.set_append_right _ _ (by simp [Bs.fix]; omega), show 8 + i - B.fix.length = i + 1 by simp [Bs.fix]; omega, List.set_cons_succ, List.set_append_left _ _ (by rw [BI_length_N]; omega), BI_set_N]
theorem preM_set_dep (hs : stk.length = 16) (q : Int) : (preM B pl stk d).set 24 (Iv_N q) = preM B pl stk q := by
 unfold preM
 rw [List.set_append_right _ _ (by simp [Bs.fix]), show 24 - B.fix.length = 16 + 1 by simp [Bs.fix], List.set_cons_succ, List.set_append_right _ _ (by rw [BI_length_N]; omega), BI_length_N, hs]
 rfl
end
structure MS (B : Bs) (w : World) (p : Nat) (m : Mc) (k : Nat) (stk : List Int) (ev sn tm : Value) : Prop where
 s16 : stk.length = 16
 top : stk.take m.st.length = m.st
 rs : RS tyM B.w0 w p (preM B (m.at_ : Int) stk (m.st.length : Int)) m.reg m.ev m.sent m.tm k ev sn tm
def MSt (B : Bs) (w : World) (p : Nat) (m : Mc) (k : Nat) : Prop := ∃ stk ev sn tm, MS B w p m k stk ev sn tm
section
variable {B : Bs} {w w' : World} {p : Nat} {m : Mc} {k : Nat} {stk : List Int} {ev sn tm : Value}
theorem MS.le (h : MS B w p m k stk ev sn tm) : m.st.length ≤ 16 := by
 have := congrArg List.length h.top
 rw [List.length_take, h.s16] at this
 omega
theorem MS.keep (h : MS B w p m k stk ev sn tm) (kk : Kept [] w w') : MS B w' p m k stk ev sn tm := ⟨h.s16, h.top, h.rs.keep kk⟩
theorem MSt.keep (h : MSt B w p m k) (kk : Kept [] w w') : MSt B w' p m k := by
 obtain ⟨stk, ev, sn, tm, h⟩ := h
 exact ⟨stk, ev, sn, tm, h.keep kk⟩
theorem MSt.kept (h : MSt B w p m k) : Kept [] B.w0 w := by
 obtain ⟨stk, ev, sn, tm, h⟩ := h
 exact h.rs.kept
theorem MSt.le (h : MSt B w p m k) : m.st.length ≤ 16 := by
 obtain ⟨stk, ev, sn, tm, h⟩ := h
 exact h.le
theorem MSt.r8 (h : MSt B w p m k) : m.reg.length = 8 := by
 obtain ⟨stk, ev, sn, tm, h⟩ := h
 exact h.rs.r8
theorem MS.dep (h : MS B w p m k stk ev sn tm) : w.cell? ⟨p, 24, none⟩ = some (Iv_N (m.st.length : Int)) := h.rs.cell_pre (preM_dep h.s16)
theorem MS.len (h : MS B w p m k stk ev sn tm) : (preM B (m.at_ : Int) stk (m.st.length : Int)).length = 25 := preM_length h.s16
theorem MS.pushed (h : MS B w p m k stk ev sn tm) (x : Int) (hl : m.st.length < 16) : (∃ y, w.cell? ⟨p, 8 + m.st.length, none⟩ = some (Iv_N y)) ∧ (w.setCell ⟨p, 8 + m.st.length, none⟩ (Iv_N x)).cell? ⟨p, 24, none⟩ = some (Iv_N (m.st.length : Int)) ∧ (w.setCell ⟨p, 8 + m.st.length, none⟩ (Iv_N x)).frozen? ⟨p, 24, none⟩ = false ∧ MSt B ((w.setCell ⟨p, 8 + m.st.length, none⟩ (Iv_N x)).setCell ⟨p, 24, none⟩ (Iv_N ((m.st.length : Int) + 1))) p { m with st := m.st ++ [x] } k := by
 obtain ⟨y, hy⟩ : ∃ y, stk[m.st.length]? = some y := ⟨_, List.getElem?_eq_getElem (by rw [h.s16]; exact hl)⟩
 have h1 : RS tyM B.w0 (w.setCell ⟨p, 8 + m.st.length, none⟩ (Iv_N x)) p (preM B (m.at_ : Int) (stk.set m.st.length x) (m.st.length : Int)) m.reg m.ev m.sent m.tm k ev sn tm := h.rs.put_pre tyM_ok (Iv_N x) (by rw [h.len]; omega) (preM_set_stk h.s16 hl x)
 have s' : (stk.set m.st.length x).length = 16 := by rw [List.length_set]; exact h.s16
 refine ⟨⟨y, h.rs.cell_pre (preM_stk h.s16 hy)⟩, h1.cell_pre (preM_dep s'), h1.free _, stk.set m.st.length x, ev, sn, tm, s', ?_, ?_⟩
 ·show (stk.set m.st.length x).take (m.st ++ [x]).length = m.st ++ [x]
  rw [List.length_append, List.length_singleton, List.take_add_one, List.getElem?_set_self (by rw [h.s16]; exact hl), List.take_set_of_le (Nat.le_refl _), h.top]
  rfl
 ·have := h1.put_pre tyM_ok (Iv_N ((m.st.length : Int) + 1)) (o := 24) (by rw [preM_length s']; omega) (preM_set_dep s' _)
  show RS tyM B.w0 _ p (preM B (m.at_ : Int) (stk.set m.st.length x) ((m.st ++ [x]).length : Int)) m.reg m.ev m.sent m.tm k ev sn tm
  rw [List.length_append, List.length_singleton]
  exact this
theorem MS.popped (h : MS B w p m k stk ev sn tm) (hl : m.st ≠ []) : ∃ n, m.st.length = n + 1 ∧ (w.setCell ⟨p, 24, none⟩ (Iv_N (n : Int))).cell? ⟨p, 24, none⟩ = some (Iv_N (n : Int)) ∧ (w.setCell ⟨p, 24, none⟩ (Iv_N (n : Int))).cell? ⟨p, 8 + n, none⟩ = some (Iv_N (m.st.getLastD 0)) ∧ MSt B (w.setCell ⟨p, 24, none⟩ (Iv_N (n : Int))) p { m with st := m.st.dropLast } k := by
 obtain ⟨n, hn⟩ : ∃ n, m.st.length = n + 1 := ⟨m.st.length - 1, by have := List.length_pos_iff.2 hl; omega⟩
 have h1 : RS tyM B.w0 (w.setCell ⟨p, 24, none⟩ (Iv_N (n : Int))) p (preM B (m.at_ : Int) stk (n : Int)) m.reg m.ev m.sent m.tm k ev sn tm := h.rs.put_pre tyM_ok (Iv_N (n : Int)) (o := 24) (by rw [h.len]; omega) (preM_set_dep h.s16 _)
 have hle := h.le
 have hg : stk[n]? = some (m.st.getLastD 0) := by
  obtain ⟨v, hv⟩ : ∃ v, m.st.getLast? = some v := ⟨_, List.getLast?_eq_some_getLast hl⟩
  have e0 : m.st.getLastD 0 = v := by rw [List.getLastD_eq_getLast?, hv]; rfl
  rw [List.getLast?_eq_getElem?, hn, Nat.add_sub_cancel, ← h.top, List.getElem?_take, hn, if_pos (Nat.lt_succ_self n)] at hv
  rw [e0, hv]
 refine ⟨n, hn, h1.cell_pre (preM_dep h.s16), h1.cell_pre (preM_stk h.s16 hg), stk, ev, sn, tm, h.s16, ?_, ?_⟩
 ·show stk.take m.st.dropLast.length = m.st.dropLast
  rw [List.length_dropLast, hn, Nat.add_sub_cancel, List.dropLast_eq_take, hn, Nat.add_sub_cancel, ← h.top, hn, List.take_take, Nat.min_eq_left (Nat.le_succ n)]
 ·show RS tyM B.w0 _ p (preM B (m.at_ : Int) stk (m.st.dropLast.length : Int)) m.reg m.ev m.sent m.tm k ev sn tm
  rw [List.length_dropLast, hn, Nat.add_sub_cancel]
  exact h1
set_option maxHeartbeats 2000000 in
theorem push41 (h : MSt B w p m k) (x : Int) (hl : m.st.length < 16) : Calls Tryz.prog 145 #[.pointer (some ⟨p, 0, none⟩), .int .i64 x] w fun e w' => e = .returned (.tuple #[]) ∧ MSt B w' p { m with st := m.st ++ [x] } k := by
 obtain ⟨stk, ev, sn, tm, h⟩ := h
 obtain ⟨⟨y, c0⟩, c1, f1, HM⟩ := h.pushed x hl
 have c2 : w.drew.cell? ⟨p, 24, none⟩ = some (Iv_N (m.st.length : Int)) := h.dep
 have f0 : w.drew.frozen? ⟨p, 8 + m.st.length, none⟩ = false := h.rs.free (8 + m.st.length)
 have c0 : w.drew.cell? ⟨p, 8 + m.st.length, none⟩ = some (Iv_N y) := c0
 have c1 : (w.setCell ⟨p, 8 + m.st.length, none⟩ (Iv_N x)).drew.cell? ⟨p, 24, none⟩ = some (Iv_N (m.st.length : Int)) := c1
 have f1 : (w.setCell ⟨p, 8 + m.st.length, none⟩ (Iv_N x)).drew.frozen? ⟨p, 24, none⟩ = false := f1
 have HM := Hid.mk (HM.keep (Kept.refl [] _).drew)
 have q1 : (m.st.length : Int) < 16 := by omega
 have q2 : (0 : Int) ≤ (m.st.length : Int) := by omega
 clear h
 generalize m.st.length = d at *
 go_enter Tryz.func145, Tryz.ntmps145
 go_wp2_with fail
 go_region
 go_wp2_with fail
 go_end0
 exact ⟨rfl, HM.out⟩
set_option maxHeartbeats 2000000 in
theorem pop30 (h : MSt B w p m k) (hl : m.st ≠ []) : Calls Tryz.prog 125 #[.pointer (some ⟨p, 0, none⟩)] w fun e w' => e = .returned (.int .i64 (m.st.getLastD 0)) ∧ MSt B w' p { m with st := m.st.dropLast } k ∧ Kept [p] w w' := by
 obtain ⟨stk, ev, sn, tm, h⟩ := h
 obtain ⟨n, hn, c1, c0, HM⟩ := h.popped hl
 have c2 := h.dep
 have f2 := h.rs.free 24
 have hle := h.le
 have HM := Hid.mk (HM.keep (Kept.refl [] _).drew)
 have S1 : (w.setCell ⟨p, 24, none⟩ (Iv_N (n : Int))).drew.cell? ⟨p, 24, none⟩ = some (Iv_N (n : Int)) := c1
 have S0 : (w.setCell ⟨p, 24, none⟩ (Iv_N (n : Int))).drew.cell? ⟨p, 8 + n, none⟩ = some (Iv_N (m.st.getLastD 0)) := c0
 rw [hn] at c2
 have q1 : (n : Int) < 16 := by omega
 have q2 : (0 : Int) ≤ (n : Int) := by omega
 have q3 : IntKind.i64.wrap (((n + 1 : Nat) : Int) - 1) = (n : Int) := by rw [show ((n + 1 : Nat) : Int) - 1 = (n : Int) by omega]; exact w64_small _ (by omega)
 clear h hle hn
 generalize m.st.getLastD 0 = x at *
 go_enter Tryz.func125, Tryz.ntmps125
 go_wp2_with fail
 go_region
 go_wp2_with fail
 go_ret
 exact ⟨rfl, HM.out, ((Kept.refl [p] w).setCell (p := ⟨p, 24, none⟩) (.inl (by simp)) _).drew⟩
end
end Go.Proofs.YtngnenbidpojeaaGreatDoor
