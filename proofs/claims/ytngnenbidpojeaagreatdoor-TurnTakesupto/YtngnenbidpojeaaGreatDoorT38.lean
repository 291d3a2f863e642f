import Derived.Test.YtngnenbidpojeaaGreatDoorT09
import Derived.Test.YtngnenbidpojeaaGreatDoorT14
import Derived.Test.YtngnenbidpojeaaGreatDoorT19
/-
 The document's copies: of a journal, of an outbox, of an actor.
-/
namespace Go.Proofs.YtngnenbidpojeaaGreatDoor
set_option maxRecDepth 100000
open Go.RowKit
set_option linter.unusedVariables false
section
variable {w : World}
theorem eight_ofL {A : List Int} (h : A.length = 8) : ∃ a0 a1 a2 a3 a4 a5 a6 a7, A = [a0, a1, a2, a3, a4, a5, a6, a7] := by
 match A, h with
 | [a0, a1, a2, a3, a4, a5, a6, a7], _ => exact ⟨a0, a1, a2, a3, a4, a5, a6, a7, rfl⟩
set_option maxHeartbeats 4000000 in
theorem copyJ99 {f : Nat} {v : Value} {j : Jn} (h : IsF_J w f v j) (hl : j.ev.length ≤ 1000) : Calls Tryz.prog 99 #[Ptr f] w fun e w' => ∃ g u, e = .returned (Ptr g) ∧ IsF_J w' g u j ∧ Fresh w u ∧ Kept [] w w' ∧ w.heap.size ≤ g := by
 obtain ⟨a, c, rfl, hc1, hc2⟩ := h.form
 obtain ⟨b, ev, ver⟩ := j
 obtain ⟨b0, b1, b2, b3, b4, b5, b6, b7, rfl⟩ := eight_ofL h.b8
 dsimp only at hl hc1 hc2 h ⊢
 obtain ⟨W0, e0, k0, hz0, hb0⟩ := box1 w (.cells #[] 93)
 have hE : OwnsR 93 2 W0.drew (.slice (some ⟨w.heap.size, 0, none⟩) 0 0) [] := ⟨rfl, .inr ⟨w.heap.size, 0, #[], rfl, Nat.zero_le _, hb0, Nat.le_refl _, Nat.zero_le _, rfl, rfl⟩⟩
 have HS : Hid (∀ V, Kept [] w V → V.cell? ⟨f, 0, none⟩ = some (Iv b0) ∧ V.cell? ⟨f, 1, none⟩ = some (Iv b1) ∧ V.cell? ⟨f, 2, none⟩ = some (Iv b2) ∧ V.cell? ⟨f, 3, none⟩ = some (Iv b3) ∧ V.cell? ⟨f, 4, none⟩ = some (Iv b4) ∧ V.cell? ⟨f, 5, none⟩ = some (Iv b5) ∧ V.cell? ⟨f, 6, none⟩ = some (Iv b6) ∧ V.cell? ⟨f, 7, none⟩ = some (Iv b7) ∧ V.cell? ⟨f, 8, none⟩ = some (.slice a ev.length c) ∧ V.cell? ⟨f, 9, none⟩ = some (Uv ver)) := Hid.mk fun V k => by
  have h' := h.kept0 k
  exact ⟨h'.cellA rfl, h'.cellA rfl, h'.cellA rfl, h'.cellA rfl, h'.cellA rfl, h'.cellA rfl, h'.cellA rfl, h'.cellA rfl, h'.ev, h'.ver⟩
 have hrd := (h.kept0 (k0.drew)).row
 obtain ⟨ad, c1, W1, hrun, hO1, hg1, hN1⟩ := run_appendR rt30 W0.drew 27 _ [] hE (.slice a ev.length c) (CE (ev.map ofE)) (CE_wide _) hrd (by rw [CE_length, List.length_map]; simp; omega)
 rw [List.nil_append, List.length_nil, Nat.zero_add, CE_length, List.length_map] at *
 have k1 : Kept [] w W1 := (k0.drew.grown hg1 (fun y hy => .inr (by simp [Value.ownBlock] at hy; omega)))
 have hf1 : Fresh w (.slice ad ev.length c1) := fun g hg => by
  rcases hN1 g hg with h | h
  ·simp [Value.ownBlock] at h; omega
  ·have : W0.drew.heap.size = W0.heap.size := rfl; omega
 have HR : Hid (∃ g, g = W1.heap.size ∧ IsF_J (W1.alloc (.cells #[Iv b0, Iv b1, Iv b2, Iv b3, Iv b4, Iv b5, Iv b6, Iv b7, .slice ad ev.length c1, Uv ver] 137)) g (.slice ad ev.length c1) ⟨[b0, b1, b2, b3, b4, b5, b6, b7], ev, ver⟩ ∧ Fresh w (.slice ad ev.length c1) ∧ Kept [] w (W1.alloc (.cells #[Iv b0, Iv b1, Iv b2, Iv b3, Iv b4, Iv b5, Iv b6, Iv b7, .slice ad ev.length c1, Uv ver] 137)) ∧ w.heap.size ≤ g) := Hid.mk ⟨_, rfl, ⟨heap_alloc_new W1 _, hO1.kept ((Kept.refl [] W1).alloc _) (by simp), rfl⟩, hf1, k1.alloc _, k1.size⟩
 have S0 := HS.out _ (Kept.refl _ _).drew
 have S1 := HS.out _ k0.drew
 have S2 := HS.out _ k1
 have S3 := HS.out _ (k1.alloc (.cells #[Iv b0, Iv b1, Iv b2, Iv b3, Iv b4, Iv b5, Iv b6, Iv b7, .slice ad ev.length c1, Uv ver] 137))
 generalize ev.length = n at *
 clear h hE hrd hO1 hg1 hN1 k1 hf1 hb0 hz0 k0
 go_enter Tryz.func99, Tryz.ntmps99
 go_wp2_with fail
 go_region_held3 (fun V => V.cell? ⟨f, 0, none⟩ = some (Iv b0) ∧ V.cell? ⟨f, 1, none⟩ = some (Iv b1) ∧ V.cell? ⟨f, 2, none⟩ = some (Iv b2) ∧ V.cell? ⟨f, 3, none⟩ = some (Iv b3) ∧ V.cell? ⟨f, 4, none⟩ = some (Iv b4) ∧ V.cell? ⟨f, 5, none⟩ = some (Iv b5) ∧ V.cell? ⟨f, 6, none⟩ = some (Iv b6) ∧ V.cell? ⟨f, 7, none⟩ = some (Iv b7) ∧ V.cell? ⟨f, 8, none⟩ = some (.slice a n c) ∧ V.cell? ⟨f, 9, none⟩ = some (Uv ver)) (first | with_reducible exact S0 | with_reducible exact S1 | with_reducible exact S2 | with_reducible exact S3) (refine step_append_run 27 (.tmp 7) (.tmp 11) (by rfl) (by rfl) _ _ (by rfl) (by rfl) hrun ?_)
 go_wp2_with fail
 go_ret
 obtain ⟨g, rfl, h1, h2, h3, h4⟩ := HR.out
 exact ⟨_, _, rfl, h1, h2, h3, h4⟩
def CpO (w wr : World) (g : Nat) (u : Value) (own : List UInt8) (K : List La) (ms : List Yq) (k : Nat) (vk : Value) : Prop := ∃ ms', IsF w wr g vk u own K ms' ∧ ms'.map ot = (ms.take k).map ot ∧ Kept [] w wr
set_option maxHeartbeats 8000000 in
theorem copyO100 {w0 : World} {f : Nat} {v u : Value} {own : List UInt8} {K : List La} {ms : List Yq} (h : IsF w0 w f v u own K ms) (hK : K.length ≤ 64) (hm : ms.length ≤ 32) (ha : ∀ y ∈ ms, y.q.x.args.length ≤ 4) :
  Calls Tryz.prog 100 #[Ptr f] w fun e w' => ∃ g v' u' ms', e = .returned (Ptr g) ∧ IsF w w' g v' u' own K ms' ∧ ms'.map ot = ms.map ot ∧ Kept [] w w' := by
 obtain ⟨au, cu, rfl, hc1, hc2⟩ := rowK_form h.krow
 obtain ⟨av, cv, rfl, hc3, hc4⟩ := rowY_form h.ys.row
 obtain ⟨W0, e0, k0, hz0, hb0⟩ := box1 w (.cells #[] 198)
 have hE : OwnsR 198 2 W0.drew (.slice (some ⟨w.heap.size, 0, none⟩) 0 0) [] := ⟨rfl, .inr ⟨w.heap.size, 0, #[], rfl, Nat.zero_le _, hb0, Nat.le_refl _, Nat.zero_le _, rfl, rfl⟩⟩
 have hrd := (h.kept0 (k0.drew)).krow
 obtain ⟨ad, c1, W1, hrun, hO1, hg1, hN1⟩ := run_appendR rt72 W0.drew 122 _ [] hE (.slice au K.length cu) (CK K) (CK_wide _) hrd (by rw [CK_length]; simp; omega)
 rw [List.nil_append, List.length_nil, Nat.zero_add, CK_length] at *
 have k1 : Kept [] w W1 := (k0.drew.grown hg1 (fun y hy => .inr (by simp [Value.ownBlock] at hy; omega)))
 have hf1 : Fresh w (.slice ad K.length c1) := fun g hg => by
  rcases hN1 g hg with h | h
  ·simp [Value.ownBlock] at h; omega
  ·have : W0.drew.heap.size = W0.heap.size := rfl; omega
 have HS : Hid (∀ V, Kept [] w V → V.cell? ⟨f, 0, none⟩ = some (Sv own) ∧ V.cell? ⟨f, 1, none⟩ = some (.slice av ms.length cv) ∧ V.cell? ⟨f, 2, none⟩ = some (.slice au K.length cu)) := Hid.mk fun V k => cells3 (h.kept0 k).box
 have HH := Hid.mk h
 have HA := Hid.mk ha
 have kA := k1.alloc (.cells #[Sv own, .slice none 0 0, .slice ad K.length c1] 124)
 have S0 := HS.out _ (Kept.refl _ _).drew
 have S1 := HS.out _ k0.drew
 have S2 := HS.out _ k1
 have S3 := HS.out _ kA
 have HST : Hid (CpO w (W1.alloc (.cells #[Sv own, .slice none 0 0, .slice ad K.length c1] 124)) W1.heap.size (.slice ad K.length c1) own K ms 0 (.slice none 0 0)) := Hid.mk ⟨[], ⟨heap_alloc_new W1 _, OwnY.nil _ _ _, hO1.kept ((Kept.refl [] W1).alloc _) (by simp), hf1, k1.size⟩, by simp, kA⟩
 clear h hE hrd hO1 hg1 hN1 k1 hf1 hb0 hz0 k0 ha kA
 generalize hn : ms.length = n at *
 generalize hkn : K.length = kn at *
 have HN := Hid.mk hn
 clear hn hkn
 go_enter Tryz.func100, Tryz.ntmps100
 go_wp2_with fail
 go_region_held3 (fun V => V.cell? ⟨f, 0, none⟩ = some (Sv own) ∧ V.cell? ⟨f, 1, none⟩ = some (.slice av n cv) ∧ V.cell? ⟨f, 2, none⟩ = some (.slice au kn cu)) (first | with_reducible exact S0 | with_reducible exact S1 | with_reducible exact S2 | with_reducible exact S3) (refine step_append_run 122 (.tmp 9) (.tmp 13) (by rfl) (by rfl) _ _ (by rfl) (by rfl) hrun ?_)
 obtain ⟨-, s1, -⟩ := S3
 clear S0 S1 S2
 go_wp2_with fail
 generalize W1.alloc (.cells #[Sv own, .slice none 0 0, .slice ad kn c1] 124) = W2 at *
 generalize hgg : W1.heap.size = g at *
 clear hgg hrun s1
 go_loopw [22] (fun i wr => ∃ k : Nat, i = .int .i64 (k : Int) ∧ k ≤ n ∧ Hid (∃ vk, CpO w wr g (.slice ad kn c1) own K ms k vk)) (fun i _ => n - (intOf i).toNat)
 case atStart => exact ⟨0, rfl, by omega, Hid.mk ⟨_, HST.out⟩⟩
 case round =>
  obtain ⟨k, rfl, hk, H⟩ := hrel
  clear HST
  obtain ⟨vk, ms', hF, hmm, kk⟩ := H.out
  have hml : ms'.length = k := by
   have := congrArg List.length hmm
   rw [List.length_map, List.length_map, List.length_take] at this
   have := HN.out
   omega
  have HML := Hid.mk hml
  obtain ⟨ak, ck, rfl, hc5, hc6⟩ := rowY_form hF.ys.row
  rw [hml] at hF hc5
  by_cases hlt : k < n
  ·obtain ⟨y, hy⟩ : ∃ y, ms[k]? = some y := ⟨_, List.getElem?_eq_getElem (by have := HN.out; omega)⟩
   have hym := List.mem_of_getElem? hy
   obtain ⟨b, o, rfl, -⟩ := rowY_at HH.out.ys.row hy
   have HFr := Hid.mk hF
   have HKK := Hid.mk kk
   have HMM := Hid.mk hmm
   have HY := Hid.mk hy
   have HSk : Hid (∀ V, Kept [] w V → V.cell? ⟨f, 1, none⟩ = some (.slice (some ⟨b, o, none⟩) n cv) ∧ V.cell? ⟨b, o + k * 5, none⟩ = some (Sv y.to) ∧ V.cell? ⟨b, o + k * 5 + 1, none⟩ = some (Sv y.q.x.fr) ∧ V.cell? ⟨b, o + k * 5 + 2, none⟩ = some (.int .u64 (y.q.x.ser : Int)) ∧ V.cell? ⟨b, o + k * 5 + 3, none⟩ = some (.int .i64 y.q.x.kind) ∧ V.cell? ⟨b, o + k * 5 + 4, none⟩ = some (.slice y.q.ad y.q.x.args.length y.q.cap)) := Hid.mk fun V kV => by
    obtain ⟨b', o', e', d0, d1, d2, d3, d4⟩ := rowY_at (HH.out.kept0 kV).ys.row HY.out
    injection e' with e'
    injection e' with e1 e2
    subst e1 e2
    exact ⟨(HS.out V kV).2.1, d0, d1, d2, d3, d4⟩
   have hgt : g < wr.heap.size := hF.lt
   have HGl : Hid (w.heap.size ≤ g) := Hid.mk hF.fr
   have HG1 : Hid (∀ V, Kept [] wr V → V.cell? ⟨g, 1, none⟩ = some (.slice ak k ck)) := Hid.mk fun V kV => (cells3 (HFr.out.kept0 kV).box).2.1
   have HC := Hid.mk (copy25 (w := wr.drew) y.q.x y.q.ad y.q.cap ((HH.out.ys.args y hym).reads.kept (kk.drew) (by simp)) (by have := HA.out y hym; omega))
   have S0 := HSk.out _ kk.drew
   have HEND : ∀ (w6 : World) (a6 : Option Addr) (c6 : Nat) (a5 : Option Addr) (c5 : Nat), Hid (Kept [] w w6) → w6.heap[g]? = some (.cells #[Sv own, .slice ak k ck, .slice ad kn c1] 124 (0, 0)) → OwnY 131 w w6 (.slice a6 (k + 1) c6) (ms' ++ [⟨y.to, y.q.x, a5, c5⟩]) → OwnsR 198 2 w6 (.slice ad kn c1) (CK K) → Hid (∃ vk, CpO w (w6.setCell ⟨g, 1, none⟩ (.slice a6 (k + 1) c6)) g (.slice ad kn c1) own K ms (k + 1) vk) := fun w6 a6 c6 a5 c5 K6 h6 hO6 hk6 => by
    have ks : Kept [g] w6 (w6.setCell ⟨g, 1, none⟩ (.slice a6 (k + 1) c6)) := (Kept.refl [g] w6).setCell (p := ⟨g, 1, none⟩) (.inl (by simp)) _
    refine Hid.mk ⟨_, _, ⟨set3_1 h6, hO6.kept ks (fun z hz => ?_), hk6.kept ks (fun z hz hm => ?_), HFr.out.fru, HFr.out.fr⟩, ?_, K6.out.trans ks (fun x hx => by simp at hx; subst hx; exact .inr HGl.out)⟩
    ·simp at hz
     subst hz
     exact ⟨ownsR_ne hO6.own h6 (by decide), fun q hq => ownsJ_ne (hO6.args q hq) h6 (by decide)⟩
    ·simp at hm
     subst hm
     exact ownsR_ne hk6 h6 (by decide) hz
    ·rw [List.take_add_one, HY.out, List.map_append, List.map_append, HMM.out]
     rfl
   have GA := fun (w5 : World) (K5 : Kept [] wr w5) (a5 : Option Addr) (c5 : Nat) => HG1.out _ (K5.alloc (.cells #[Sv y.to, Sv y.q.x.fr, .int .u64 (y.q.x.ser : Int), .int .i64 y.q.x.kind, .slice a5 y.q.x.args.length c5] 131))
   have G0 := HG1.out _ (Kept.refl [] wr).drew
   have hkI : (k : Int) < (n : Int) := by omega
   clear hF hmm hml kk hy hym H
   go_wp2_with fail
   -- REGION 5
   refine wp_region_noPanic ?_
   refine wp_region_held_drew (S := fun V => V.cell? ⟨f, 1, none⟩ = some (.slice (some ⟨b, o, none⟩) n cv) ∧ V.cell? ⟨b, o + k * 5, none⟩ = some (Sv y.to) ∧ V.cell? ⟨b, o + k * 5 + 1, none⟩ = some (Sv y.q.x.fr) ∧ V.cell? ⟨b, o + k * 5 + 2, none⟩ = some (.int .u64 (y.q.x.ser : Int)) ∧ V.cell? ⟨b, o + k * 5 + 3, none⟩ = some (.int .i64 y.q.x.kind) ∧ V.cell? ⟨b, o + k * 5 + 4, none⟩ = some (.slice y.q.ad y.q.x.args.length y.q.cap)) (by kernel_rfl) S0 (fun hHeld => ?_)
   refine wpAnyH_take (i := 0) (v := ?v0) rfl (by kernel_rfl) (by kernel_rfl) (by kernel_rfl) (fun _ _ _ h => h) (Or.inl ⟨by rfl, ?hy0⟩) (by assumption) ?rest0
   case hy0 => (intro w hSw; (try dsimp only at hSw); first | (go_simp; done) | (go_simp; with_reducible rfl))
   try simp only [Act.put, List.setIfInBounds_toArray]
   refine wpAnyH_take (i := 1) (v := ?v1) rfl (by kernel_rfl) (by kernel_rfl) (by kernel_rfl) (fun _ _ _ h => h) (Or.inl ⟨by rfl, ?hy1⟩) (by assumption) ?rest1
   case hy1 => (intro w hSw; (try dsimp only at hSw); first | (go_simp; done) | (go_simp; with_reducible rfl))
   try simp only [Act.put]
   refine wpAnyH_take (i := 2) (v := ?v2) rfl (by kernel_rfl) (by kernel_rfl) (by kernel_rfl) (fun _ _ _ h => h) (Or.inl ⟨by rfl, ?hy2⟩) (by assumption) ?rest2
   case hy2 => (intro w hSw; (try dsimp only at hSw); first | (go_simp; done) | (go_simp; with_reducible rfl))
   try simp only [Act.put]
   refine wpAnyH_take (i := 3) (v := ?v3) rfl (by kernel_rfl) (by kernel_rfl) (by kernel_rfl) (fun _ _ _ h => h) (Or.inl ⟨by rfl, ?hy3⟩) (by assumption) ?rest3
   case hy3 => (intro w hSw; (try dsimp only at hSw); first | (go_simp; done) | (go_simp; with_reducible rfl))
   try simp only [Act.put]
   refine wpAnyH_take (i := 5) (v := ?v4) rfl (by kernel_rfl) (by kernel_rfl) (by kernel_rfl) (fun _ _ _ h => h) (Or.inl ⟨by rfl, ?hy4⟩) (by assumption) ?rest4
   case hy4 => (intro w hSw; (try dsimp only at hSw); first | (go_simp; done) | (go_simp; with_reducible rfl))
   try simp only [Act.put]
   refine wpAnyH_take (i := 6) (v := ?v5) rfl (by kernel_rfl) (by kernel_rfl) (by kernel_rfl) (fun _ _ _ h => h) (Or.inl ⟨by rfl, ?hy5⟩) (by assumption) ?rest5
   case hy5 => (intro w hSw; (try dsimp only at hSw); first | (go_simp; done) | (go_simp; with_reducible rfl))
   try simp only [Act.put]
   refine wpAnyH_take (i := 7) (v := ?v6) rfl (by kernel_rfl) (by kernel_rfl) (by kernel_rfl) (fun _ _ _ h => h) (Or.inl ⟨by rfl, ?hy6⟩) (by assumption) ?rest6
   case hy6 => (intro w hSw; (try dsimp only at hSw); first | (go_simp; done) | (go_simp; with_reducible rfl))
   try simp only [Act.put]
   refine wpAnyH_take (i := 8) (v := ?v7) rfl (by kernel_rfl) (by kernel_rfl) (by kernel_rfl) (fun _ _ _ h => h) (Or.inl ⟨by rfl, ?hy7⟩) (by assumption) ?rest7
   case hy7 => (intro w hSw; (try dsimp only at hSw); first | (go_simp; done) | (go_simp; with_reducible rfl))
   try simp only [Act.put]
   refine wpAnyH_take (i := 9) (v := ?v8) rfl (by kernel_rfl) (by kernel_rfl) (by kernel_rfl) (fun _ _ _ h => h) (Or.inl ⟨by rfl, ?hy8⟩) (by assumption) ?rest8
   case hy8 => (intro w hSw; (try dsimp only at hSw); first | (go_simp; done) | (go_simp; with_reducible rfl))
   try simp only [Act.put]
   refine wpAnyH_take (i := 10) (v := ?v9) rfl (by kernel_rfl) (by kernel_rfl) (by kernel_rfl) (fun _ _ _ h => h) (Or.inl ⟨by rfl, ?hy9⟩) (by assumption) ?rest9
   case hy9 => (intro w hSw; (try dsimp only at hSw); first | (go_simp; done) | (go_simp; with_reducible rfl))
   try simp only [Act.put]
   refine wpAnyH_take (i := 11) (v := ?v10) rfl (by kernel_rfl) (by kernel_rfl) (by kernel_rfl) (fun _ _ _ h => h) (Or.inl ⟨by rfl, ?hy10⟩) (by assumption) ?rest10
   case hy10 => (intro w hSw; (try dsimp only at hSw); first | (go_simp; done) | (go_simp; with_reducible rfl))
   try simp only [Act.put]
   refine wpAnyH_take (i := 12) (v := ?v11) rfl (by kernel_rfl) (by kernel_rfl) (by kernel_rfl) (fun _ _ _ h => h) (Or.inl ⟨by rfl, ?hy11⟩) (by assumption) ?rest11
   case hy11 => (intro w hSw; (try dsimp only at hSw); first | (go_simp; done) | (go_simp; with_reducible rfl))
   try simp only [Act.put]
   refine wpAnyH_take (i := 13) (v := ?v12) rfl (by kernel_rfl) (by kernel_rfl) (by kernel_rfl) (fun _ _ _ h => h) (Or.inl ⟨by rfl, ?hy12⟩) (by assumption) ?rest12
   case hy12 => (intro w hSw; (try dsimp only at hSw); first | (go_simp; done) | (go_simp; with_reducible rfl))
   try simp only [Act.put]
   refine wpAnyH_take (i := 14) (v := ?v13) rfl (by kernel_rfl) (by kernel_rfl) (by kernel_rfl) (fun _ _ _ h => h) (Or.inl ⟨by rfl, ?hy13⟩) (by assumption) ?rest13
   case hy13 => (intro w hSw; (try dsimp only at hSw); first | (go_simp; done) | (go_simp; with_reducible rfl))
   try simp only [Act.put]
   refine wpAnyH_take (i := 15) (v := ?v14) rfl (by kernel_rfl) (by kernel_rfl) (by kernel_rfl) (fun _ _ _ h => h) (Or.inl ⟨by rfl, ?hy14⟩) (by assumption) ?rest14
   case hy14 => (intro w hSw; (try dsimp only at hSw); first | (go_simp; done) | (go_simp; with_reducible rfl))
   try simp only [Act.put]
   refine wpAnyH_take (i := 16) (v := ?v15) rfl (by kernel_rfl) (by kernel_rfl) (by kernel_rfl) (fun _ _ _ h => h) (Or.inl ⟨by rfl, ?hy15⟩) (by assumption) ?rest15
   case hy15 => (intro w hSw; (try dsimp only at hSw); first | (go_simp; done) | (go_simp; with_reducible rfl))
   try simp only [Act.put]
   refine wpAnyH_take (i := 17) (v := ?v16) rfl (by kernel_rfl) (by kernel_rfl) (by kernel_rfl) (fun _ _ _ h => h) (Or.inl ⟨by rfl, ?hy16⟩) (by assumption) ?rest16
   case hy16 => (intro w hSw; (try dsimp only at hSw); first | (go_simp; done) | (go_simp; with_reducible rfl))
   try simp only [Act.put]
   refine wpAnyH_take (i := 18) (v := ?v17) rfl (by kernel_rfl) (by kernel_rfl) (by kernel_rfl) (fun _ _ _ h => h) (Or.inl ⟨by rfl, ?hy17⟩) (by assumption) ?rest17
   case hy17 => (intro w hSw; (try dsimp only at hSw); first | (go_simp; done) | (go_simp; with_reducible rfl))
   try simp only [Act.put]
   refine wpAnyH_take (i := 19) (v := ?v18) rfl (by kernel_rfl) (by kernel_rfl) (by kernel_rfl) (fun _ _ _ h => h) (Or.inl ⟨by rfl, ?hy18⟩) (by assumption) ?rest18
   case hy18 => (intro w hSw; (try dsimp only at hSw); first | (go_simp; done) | (go_simp; with_reducible rfl))
   try simp only [Act.put]
   refine wpAnyH_take (i := 20) (v := ?v19) rfl (by kernel_rfl) (by kernel_rfl) (by kernel_rfl) (fun _ _ _ h => h) (Or.inl ⟨by rfl, ?hy19⟩) (by assumption) ?rest19
   case hy19 => (intro w hSw; (try dsimp only at hSw); first | (go_simp; done) | (go_simp; with_reducible rfl))
   try simp only [Act.put]
   refine wpAnyH_ready (rs := [4, 21]) (by kernel_rfl) (by simp) ?_
   refine AllReadyH.cons rfl (fun K hK => ?_) (AllReadyH.cons rfl (fun K hK => ?_) AllReadyH.nil)
   ·go_simp
    refine hK.out _ _ S0 (fun hHeld => ?_)
    clear hK K
    try simp only [Act.put, List.setIfInBounds_toArray, List.set_cons_zero, List.set_cons_succ]
    refine wpAnyH_ready (rs := [21]) (by kernel_rfl) (by simp) ?_
    refine AllReadyH.cons rfl (fun K hK => ?_) AllReadyH.nil
    (go_simp; go_at_call 79; refine HC.out.mono ?_; rintro e w5 ⟨a5, c5, rfl, hO5, k5, hf5⟩; have K5 : Hid (Kept [] wr w5) := Hid.mk ((Kept.refl [] wr).drew.then k5); obtain ⟨a6, c6, w6, hrun, hO6, k6⟩ := (HFr.out.kept0 K5.out).ys.app ⟨y.to, y.q.x, a5, c5⟩ hO5 (fun z hz => by have := hf5 z hz; have := HKK.out.size; have : wr.drew.heap.size = wr.heap.size := rfl; omega) (by have := K5.out.size; have := HKK.out.size; omega) (by have := HML.out; omega); rw [HML.out] at hrun hO6; have h6 := k6.keeps (HFr.out.kept0 K5.out).box (by rw [Option.mem_toList]; exact ownsR_ne (HFr.out.kept0 K5.out).ys.own (HFr.out.kept0 K5.out).box (by decide)); obtain ⟨f0, f1, f2⟩ := free3 h6; obtain ⟨t0, t1, t2⟩ := cells3 h6; have K6 : Hid (Kept [] w w6) := Hid.mk ((HKK.out.then K5.out).trans k6 (fun x hx => .inr (by rw [Option.mem_toList] at hx; exact HFr.out.ys.fr x hx))); have S5 := HSk.out w5 (HKK.out.then K5.out); have G5 := HG1.out _ K5.out; have G6 := GA w5 K5.out a5 c5; have hk6 := (HFr.out.kept0 K5.out).ks.kept k6 (fun z hz hm => by rw [Option.mem_toList] at hm; exact own_apart (HFr.out.kept0 K5.out).ks (HFr.out.kept0 K5.out).ys.own (by decide) hz hm); have H6 := Hid.mk (And.intro h6 (And.intro hO6 hk6)); clear hk6 h6 hO6 k5 hf5 hO5 k6)
    refine hK.out _ _ S5 (fun hHeld => ?_)
    clear hK K
    try simp only [Act.put, List.setIfInBounds_toArray, List.set_cons_zero, List.set_cons_succ]
    refine wpAnyH_take (i := 22) (v := ?v20) rfl (by kernel_rfl) (by kernel_rfl) (by kernel_rfl) (fun _ _ _ h => h) (Or.inl ⟨by rfl, ?hy20⟩) (by assumption) ?rest20
    case hy20 => (intro w hSw; (try dsimp only at hSw); first | (go_simp; done) | (go_simp; with_reducible rfl))
    try simp only [Act.put, List.setIfInBounds_toArray]
    refine wpAnyH_ready (rs := [23]) (by kernel_rfl) (by simp) ?_
    refine AllReadyH.cons rfl (fun K hK => ?_) AllReadyH.nil
    go_simp
    refine hK.out _ _ (HSk.out _ ((HKK.out.then K5.out).alloc _)) (fun hHeld => ?_)
    clear hK K
    try simp only [Act.put, List.setIfInBounds_toArray, List.set_cons_zero, List.set_cons_succ]
    refine wpAnyH_ready (rs := [24]) (by kernel_rfl) (by simp) ?_
    refine AllReadyH.cons rfl (fun K hK => ?_) AllReadyH.nil
    refine step_append_run 121 (.tmp 29) (.tmp 48) (by rfl) (by rfl) _ _ (by rfl) (by rfl) hrun ?_
    refine hK.out _ _ (HSk.out _ K6.out) (fun hHeld => ?_)
    clear hK K
    try simp only [Act.put, List.setIfInBounds_toArray]
    refine wpAnyH_take (i := 25) (v := ?v21) rfl (by kernel_rfl) (by kernel_rfl) (by kernel_rfl) (fun _ _ _ h => h) (Or.inl ⟨by rfl, ?hy21⟩) (by assumption) ?rest21
    case hy21 => (intro w hSw; (try dsimp only at hSw); first | (go_simp; done) | (go_simp; with_reducible rfl))
    try simp only [Act.put]
    refine wpAnyH_take (i := 26) (v := ?v22) rfl (by kernel_rfl) (by kernel_rfl) (by kernel_rfl) (fun _ _ _ h => h) (Or.inl ⟨by rfl, ?hy22⟩) (by assumption) ?rest22
    case hy22 => (intro w hSw; (try dsimp only at hSw); first | (go_simp; done) | (go_simp; with_reducible rfl))
    try simp only [Act.put]
    refine wpAnyH_ready (rs := [27]) (by kernel_rfl) (by simp) ?_
    refine AllReadyH.cons rfl (fun K hK => ?_) AllReadyH.nil
    go_simp
    refine hK.out _ _ (HSk.out _ (K6.out.setCell (p := ⟨g, 1, none⟩) (.inr HGl.out) _)) (fun hHeld => ?_)
    clear hK K
    try simp only [Act.put, List.setIfInBounds_toArray, List.set_cons_zero, List.set_cons_succ]
    refine wpAnyH_done (by kernel_rfl) ?_ _
    refine NoPanic.normal ?_
    obtain ⟨h6, hO6, hk6⟩ := H6.out
    have H7 := HEND w6 a6 c6 a5 c5 K6 h6 hO6 hk6
    clear S0 G0 S5 G5 G6 hrun f0 f1 f2 t0 t1 t2 HC HSk h6 hO6 hk6 H6 HEND
    go_wp2_with fail
    go_roundw
    case rel => exact ⟨k + 1, by go_num, by omega, H7⟩
    case measure => simp [intOf]; omega
   ·(go_simp; go_at_call 79; refine HC.out.mono ?_; rintro e w5 ⟨a5, c5, rfl, hO5, k5, hf5⟩; have K5 : Hid (Kept [] wr w5) := Hid.mk ((Kept.refl [] wr).drew.then k5); obtain ⟨a6, c6, w6, hrun, hO6, k6⟩ := (HFr.out.kept0 K5.out).ys.app ⟨y.to, y.q.x, a5, c5⟩ hO5 (fun z hz => by have := hf5 z hz; have := HKK.out.size; have : wr.drew.heap.size = wr.heap.size := rfl; omega) (by have := K5.out.size; have := HKK.out.size; omega) (by have := HML.out; omega); rw [HML.out] at hrun hO6; have h6 := k6.keeps (HFr.out.kept0 K5.out).box (by rw [Option.mem_toList]; exact ownsR_ne (HFr.out.kept0 K5.out).ys.own (HFr.out.kept0 K5.out).box (by decide)); obtain ⟨f0, f1, f2⟩ := free3 h6; obtain ⟨t0, t1, t2⟩ := cells3 h6; have K6 : Hid (Kept [] w w6) := Hid.mk ((HKK.out.then K5.out).trans k6 (fun x hx => .inr (by rw [Option.mem_toList] at hx; exact HFr.out.ys.fr x hx))); have S5 := HSk.out w5 (HKK.out.then K5.out); have G5 := HG1.out _ K5.out; have G6 := GA w5 K5.out a5 c5; have hk6 := (HFr.out.kept0 K5.out).ks.kept k6 (fun z hz hm => by rw [Option.mem_toList] at hm; exact own_apart (HFr.out.kept0 K5.out).ks (HFr.out.kept0 K5.out).ys.own (by decide) hz hm); have H6 := Hid.mk (And.intro h6 (And.intro hO6 hk6)); clear hk6 h6 hO6 k5 hf5 hO5 k6)
    refine hK.out _ _ S5 (fun hHeld => ?_)
    clear hK K
    try simp only [Act.put, List.setIfInBounds_toArray, List.set_cons_zero, List.set_cons_succ]
    refine wpAnyH_take (i := 22) (v := ?v23) rfl (by kernel_rfl) (by kernel_rfl) (by kernel_rfl) (fun _ _ _ h => h) (Or.inl ⟨by rfl, ?hy23⟩) (by assumption) ?rest23
    case hy23 => (intro w hSw; (try dsimp only at hSw); first | (go_simp; done) | (go_simp; with_reducible rfl))
    try simp only [Act.put, List.setIfInBounds_toArray]
    refine wpAnyH_ready (rs := [4, 23]) (by kernel_rfl) (by simp) ?_
    refine AllReadyH.cons rfl (fun K hK => ?_) (AllReadyH.cons rfl (fun K hK => ?_) AllReadyH.nil)
    ·go_simp
     refine hK.out _ _ S5 (fun hHeld => ?_)
     clear hK K
     try simp only [Act.put, List.setIfInBounds_toArray, List.set_cons_zero, List.set_cons_succ]
     refine wpAnyH_ready (rs := [23]) (by kernel_rfl) (by simp) ?_
     refine AllReadyH.cons rfl (fun K hK => ?_) AllReadyH.nil
     go_simp
     refine hK.out _ _ (HSk.out _ ((HKK.out.then K5.out).alloc _)) (fun hHeld => ?_)
     clear hK K
     try simp only [Act.put, List.setIfInBounds_toArray, List.set_cons_zero, List.set_cons_succ]
     refine wpAnyH_ready (rs := [24]) (by kernel_rfl) (by simp) ?_
     refine AllReadyH.cons rfl (fun K hK => ?_) AllReadyH.nil
     refine step_append_run 121 (.tmp 29) (.tmp 48) (by rfl) (by rfl) _ _ (by rfl) (by rfl) hrun ?_
     refine hK.out _ _ (HSk.out _ K6.out) (fun hHeld => ?_)
     clear hK K
     try simp only [Act.put, List.setIfInBounds_toArray]
     refine wpAnyH_take (i := 25) (v := ?v24) rfl (by kernel_rfl) (by kernel_rfl) (by kernel_rfl) (fun _ _ _ h => h) (Or.inl ⟨by rfl, ?hy24⟩) (by assumption) ?rest24
     case hy24 => (intro w hSw; (try dsimp only at hSw); first | (go_simp; done) | (go_simp; with_reducible rfl))
     try simp only [Act.put]
     refine wpAnyH_take (i := 26) (v := ?v25) rfl (by kernel_rfl) (by kernel_rfl) (by kernel_rfl) (fun _ _ _ h => h) (Or.inl ⟨by rfl, ?hy25⟩) (by assumption) ?rest25
     case hy25 => (intro w hSw; (try dsimp only at hSw); first | (go_simp; done) | (go_simp; with_reducible rfl))
     try simp only [Act.put]
     refine wpAnyH_ready (rs := [27]) (by kernel_rfl) (by simp) ?_
     refine AllReadyH.cons rfl (fun K hK => ?_) AllReadyH.nil
     go_simp
     refine hK.out _ _ (HSk.out _ (K6.out.setCell (p := ⟨g, 1, none⟩) (.inr HGl.out) _)) (fun hHeld => ?_)
     clear hK K
     try simp only [Act.put, List.setIfInBounds_toArray, List.set_cons_zero, List.set_cons_succ]
     refine wpAnyH_done (by kernel_rfl) ?_ _
     refine NoPanic.normal ?_
     obtain ⟨h6, hO6, hk6⟩ := H6.out
     have H7 := HEND w6 a6 c6 a5 c5 K6 h6 hO6 hk6
     clear S0 G0 S5 G5 G6 hrun f0 f1 f2 t0 t1 t2 HC HSk h6 hO6 hk6 H6 HEND
     go_wp2_with fail
     go_roundw
     case rel => exact ⟨k + 1, by go_num, by omega, H7⟩
     case measure => simp [intOf]; omega
    ·go_simp
     refine hK.out _ _ (HSk.out _ ((HKK.out.then K5.out).alloc _)) (fun hHeld => ?_)
     clear hK K
     try simp only [Act.put, List.setIfInBounds_toArray, List.set_cons_zero, List.set_cons_succ]
     refine wpAnyH_ready (rs := [4]) (by kernel_rfl) (by simp) ?_
     refine AllReadyH.cons rfl (fun K hK => ?_) AllReadyH.nil
     go_simp
     refine hK.out _ _ (HSk.out _ ((HKK.out.then K5.out).alloc _)) (fun hHeld => ?_)
     clear hK K
     try simp only [Act.put, List.setIfInBounds_toArray, List.set_cons_zero, List.set_cons_succ]
     refine wpAnyH_ready (rs := [24]) (by kernel_rfl) (by simp) ?_
     refine AllReadyH.cons rfl (fun K hK => ?_) AllReadyH.nil
     refine step_append_run 121 (.tmp 29) (.tmp 48) (by rfl) (by rfl) _ _ (by rfl) (by rfl) hrun ?_
     refine hK.out _ _ (HSk.out _ K6.out) (fun hHeld => ?_)
     clear hK K
     try simp only [Act.put, List.setIfInBounds_toArray]
     refine wpAnyH_take (i := 25) (v := ?v26) rfl (by kernel_rfl) (by kernel_rfl) (by kernel_rfl) (fun _ _ _ h => h) (Or.inl ⟨by rfl, ?hy26⟩) (by assumption) ?rest26
     case hy26 => (intro w hSw; (try dsimp only at hSw); first | (go_simp; done) | (go_simp; with_reducible rfl))
     try simp only [Act.put]
     refine wpAnyH_take (i := 26) (v := ?v27) rfl (by kernel_rfl) (by kernel_rfl) (by kernel_rfl) (fun _ _ _ h => h) (Or.inl ⟨by rfl, ?hy27⟩) (by assumption) ?rest27
     case hy27 => (intro w hSw; (try dsimp only at hSw); first | (go_simp; done) | (go_simp; with_reducible rfl))
     try simp only [Act.put]
     refine wpAnyH_ready (rs := [27]) (by kernel_rfl) (by simp) ?_
     refine AllReadyH.cons rfl (fun K hK => ?_) AllReadyH.nil
     go_simp
     refine hK.out _ _ (HSk.out _ (K6.out.setCell (p := ⟨g, 1, none⟩) (.inr HGl.out) _)) (fun hHeld => ?_)
     clear hK K
     try simp only [Act.put, List.setIfInBounds_toArray, List.set_cons_zero, List.set_cons_succ]
     refine wpAnyH_done (by kernel_rfl) ?_ _
     refine NoPanic.normal ?_
     obtain ⟨h6, hO6, hk6⟩ := H6.out
     have H7 := HEND w6 a6 c6 a5 c5 K6 h6 hO6 hk6
     clear S0 G0 S5 G5 G6 hrun f0 f1 f2 t0 t1 t2 HC HSk h6 hO6 hk6 H6 HEND
     go_wp2_with fail
     go_roundw
     case rel => exact ⟨k + 1, by go_num, by omega, H7⟩
     case measure => simp [intOf]; omega
   -- END 5
  ·obtain rfl : k = n := by omega
   have hkI : ((k : Int) < (k : Int)) = False := eq_false (by omega)
   rw [List.take_of_length_le (by have := HN.out; omega)] at hmm
   have HR := Hid.mk (And.intro hF (And.intro hmm kk))
   clear hF hmm kk H
   go_wp2_with fail
   go_ret
   obtain ⟨h1, h2, h3⟩ := HR.out
   exact ⟨_, _, _, _, rfl, h1, h2, h3⟩
end
def AF (w0 w : World) (f fj fi fo : Nat) (a : Ac) : Prop := ∃ v, FA w0 w f fj fi fo a.tries v a ∧ PoiO w v a.poi ∧ GoodP a
section
variable {w0 w1 w w' : World} {f fj fi fo : Nat} {a b : Ac} {t : Int} {v : Value}
theorem AF.kept0 (h : AF w0 w f fj fi fo a) (k : Kept [] w w') : AF w0 w' f fj fi fo a := by
 obtain ⟨v, h1, h2, h3⟩ := h
 exact ⟨v, h1.kept0 k, h2.kept0 k, h3⟩
theorem AF.act (h : AF w0 w f fj fi fo a) : IsAf w f a := by
 obtain ⟨v, h1, h2, h3⟩ := h
 exact h1.act h2.at h3
theorem FA.elder (h : FA w1 w f fj fi fo t v a) (hs : w0.heap.size ≤ w1.heap.size) : FA w0 w f fj fi fo t v a := by
 obtain ⟨h1, ⟨u1, h2, h3⟩, ⟨u2, qs, ⟨h4, h4', h4''⟩, h5⟩, ⟨u3, x3, ys, ⟨h6, h6', h6a, h6b, h6c⟩, h7⟩, h8, h9⟩ := h
 exact ⟨h1, ⟨u1, h2, fun g hg => Nat.le_trans hs (h3 g hg)⟩, ⟨u2, qs, ⟨h4, h4'.elder hs, Nat.le_trans hs h4''⟩, h5⟩, ⟨u3, x3, ys, ⟨h6, ⟨h6'.own, h6'.args, fun g hg => Nat.le_trans hs (h6'.fr g hg), fun y hy g hg => Nat.le_trans hs (h6'.fra y hy g hg)⟩, h6a, fun g hg => Nat.le_trans hs (h6b g hg), Nat.le_trans hs h6c⟩, h7⟩, Nat.le_trans hs h8, Nat.le_trans hs h9⟩
theorem isF_elder {fo : Nat} {u x : Value} {own : List UInt8} {K : List La} {ys : List Yq} (h : IsF w1 w fo u x own K ys) (hs : w0.heap.size ≤ w1.heap.size) : IsF w0 w fo u x own K ys := by
 obtain ⟨h6, h6', h6a, h6b, h6c⟩ := h
 exact ⟨h6, ⟨h6'.own, h6'.args, fun g hg => Nat.le_trans hs (h6'.fr g hg), fun y hy g hg => Nat.le_trans hs (h6'.fra y hy g hg)⟩, h6a, fun g hg => Nat.le_trans hs (h6b g hg), Nat.le_trans hs h6c⟩
theorem AF.elder (h : AF w1 w f fj fi fo a) (hs : w0.heap.size ≤ w1.heap.size) : AF w0 w f fj fi fo a := by
 obtain ⟨v, h1, h2, h3⟩ := h
 exact ⟨v, h1.elder hs, h2, h3⟩
theorem FA.cells (h : FA w0 w f fj fi fo t v a) : w.cell? ⟨f, 0, none⟩ = some (Ptr fj) ∧ w.cell? ⟨f, 1, none⟩ = some (Ptr fi) ∧ w.cell? ⟨f, 2, none⟩ = some (Ptr fo) ∧ w.cell? ⟨f, 3, none⟩ = some (Iv t) ∧ w.cell? ⟨f, 4, none⟩ = some v := cells5 h.box
theorem FA.free (h : FA w0 w f fj fi fo t v a) (i : Nat) : w.frozen? ⟨f, i, none⟩ = false := by simp [World.frozen?, h.box]
end
section
variable {w0 w : World} {f fj fi fo : Nat} {a : Ac}
end
end Go.Proofs.YtngnenbidpojeaaGreatDoor
