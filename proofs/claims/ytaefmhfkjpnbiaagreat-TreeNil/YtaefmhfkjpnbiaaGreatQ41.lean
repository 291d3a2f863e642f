import Derived.Test.YtaefmhfkjpnbiaaGreatQ26
import Derived.Test.YtaefmhfkjpnbiaaGreatQ38
/-
  The calls of a nil Tree.
-/
namespace Go.Proofs.YtaefmhfkjpnbiaaGreat
open Go.RowKit
set_option linter.unusedVariables false

set_option maxRecDepth 100000 in
set_option maxHeartbeats 400000 in
theorem troot_nil (w : World) : Calls Tryz.prog 25 #[.pointer none] w fun e w' => e = .returned (.int .i64 0) ∧ w = w' := by
  go_enter Tryz.func25, Tryz.ntmps25
  go_wp2
  go_ret
  exact ⟨rfl, rfl⟩
set_option maxRecDepth 100000 in
set_option maxHeartbeats 400000 in
theorem tget_nil (v : Value) (w : World) : Calls Tryz.prog 22 #[.pointer none, v] w fun e w' => e = .returned (.tuple #[.slice none 0 0, .bool false]) ∧ w = w' := by
  go_enter Tryz.func22, Tryz.ntmps22
  go_wp2
  go_ret2
  exact ⟨rfl, rfl⟩
set_option maxRecDepth 100000 in
set_option maxHeartbeats 400000 in
theorem tsettle_nil (w : World) : Calls Tryz.prog 18 #[.pointer none] w fun e w' => e = .returned (.tuple #[]) ∧ w = w' := by
  go_enter Tryz.func18, Tryz.ntmps18
  go_wp2
  refine bodyPost_ret (results_none rfl _ _ _) rfl ?_
  exact ⟨rfl, rfl⟩
set_option maxRecDepth 100000 in
set_option maxHeartbeats 400000 in
theorem tapply_nil (v : Value) (w : World) : Calls Tryz.prog 14 #[.pointer none, v] w fun e w' => e = .returned (.int .i64 1) ∧ w = w' := by
  go_enter Tryz.func14, Tryz.ntmps14
  go_wp2
  go_ret
  exact ⟨rfl, rfl⟩
end Go.Proofs.YtaefmhfkjpnbiaaGreat
/-
  What is refused: no pages, an area from the block 0 on, a root that is none.
-/
namespace Go.Proofs.YtaefmhfkjpnbiaaGreat
open Go.RowKit
set_option linter.unusedVariables false

section
variable {w0 w : World} {q p : Nat} {s : St} {fr ct : Nat} {L : List Ent} {fl : List Nat} {X : Nat → Prop}
set_option maxRecDepth 100000 in
set_option maxHeartbeats 1000000 in
theorem forTrees_nil (w : World) : Calls Tryz.prog 38 #[.pointer none] w fun e w' => e = .returned (.bool false) ∧ w = w' := by
  have h1 := free_nil w
  have h2 := names_nil w
  go_enter Tryz.func38, Tryz.ntmps38
  go_wp2_with fail
  refine h1.mono ?_
  rintro e w1 ⟨rfl, rfl⟩
  clear h1
  go_wp2_with fail
  refine h2.mono ?_
  rintro e w1 ⟨rfl, rfl⟩
  clear h2
  go_wp2_with fail
  go_loopw [3, 11] (fun s i w' => s = .slice none 0 0 ∧ i = .int .i64 0 ∧ w = w') (fun _ _ _ => 0)
  case atStart => exact ⟨rfl, rfl, rfl⟩
  case round =>
    obtain ⟨rfl, rfl, rfl⟩ := hrel
    go_wp2
    go_ret
    exact ⟨rfl, rfl⟩
set_option maxRecDepth 100000 in
set_option maxHeartbeats 1000000 in
theorem forTrees_zero (h : SyP w0 w q p s 0 ct [] fl X) : Calls Tryz.prog 38 #[Pp p] w fun e w' => e = .returned (.bool false) ∧ Kept [] w w' := by
  have hfree := psy_free h
  have HSY := Hid.mk h
  have har := Hid.mk (And.intro h.ok.area h.ok.nb)
  clear h
  go_enter Tryz.func38, Tryz.ntmps38
  go_wp2_with fail
  refine hfree.mono ?_
  rintro e w1 ⟨v1, ns, rfl, ho1, hr1, k1, hf1⟩
  have hnm := psy_names (HSY.out.kept k1)
  obtain ⟨a1, c1, rfl, g1, g2⟩ := ho1.form
  have HO1 := Hid.mk (And.intro ho1 hr1)
  have HK1 := Hid.mk k1
  clear hfree ho1 hr1 k1 hf1
  go_wp2_with fail
  refine hnm.mono ?_
  rintro e w2 ⟨v2, ns2, rfl, ho2, hr2, k2, hf2⟩
  have e2 : ns2 = [] := by have := hr2.1; simpa using this
  subst e2
  obtain ⟨a2, c2, rfl, -⟩ := ho2.form
  rw [List.length_nil]
  have HK2 := Hid.mk (HK1.out.trans k2 (by simp))
  have hok := HSY.out.ok
  have hlen : ns.length = ct := by
    have := hok.length
    have h2 := HO1.out.2.1.length_eq
    simp [bls] at this
    omega
  have h1 := hok.one
  have hmem : ∀ x ∈ ns, 0 ≤ x ∧ x < 0 + ct := fun x hx => hok.mem (List.mem_append_right _ (HO1.out.2.1.mem_iff.1 hx))
  have hz : 0 ∈ ns := HO1.out.2.1.mem_iff.2 (by
    have hp := hok.perm
    simp [bls] at hp
    rw [hp.mem_iff, List.mem_range'_1]
    omega)
  have ho := HO1.out.1.kept k2 (by simp)
  have hct := contains_any ho.reads (by have := har.out; omega) 0 (by omega) (fun x hx => by have := hmem x hx; have := har.out; omega)
  rw [decide_eq_true hz] at hct
  clear hnm ho2 hr2 k2 hf2 HO1 HSY har hok ho HK1 hmem hz
  have hn1 : 0 < ns.length := by omega
  have hn2 : (0 : Int) < (ns.length : Int) := by omega
  clear hlen h1
  generalize ns.length = N at *
  go_wp2_with fail
  go_loopw [3, 11] (fun s i w' => s = .slice a1 N c1 ∧ i = .int .i64 0 ∧ w2 = w') (fun _ _ _ => 0)
  case atStart => exact ⟨rfl, rfl, rfl⟩
  case round =>
    obtain ⟨rfl, rfl, rfl⟩ := hrel
    go_wp2_with fail
    refine hct.mono ?_
    rintro e w' ⟨rfl, rfl⟩
    clear hct
    go_wp2
    go_ret
    exact ⟨rfl, HK2.out⟩
set_option maxRecDepth 100000 in
set_option maxHeartbeats 1000000 in
theorem open_not {R : World → Prop} {pp : Option Addr} {z : Int} (HC : Calls Tryz.prog 38 #[.pointer pp] (w.alloc (.cells #[.pointer pp] 26)) fun e w1 => e = .returned (.bool false) ∧ R w1) :
    Calls Tryz.prog 13 #[.pointer pp, .int .i64 z] w fun e w' => e = .returned (.tuple #[.pointer none, .int .i64 1]) ∧ R w' := by
  have c0 : (w.alloc (.cells #[.pointer pp] 26)).cell? ⟨w.heap.size, 0, none⟩ = some (.pointer pp) := by unfold World.cell?; rw [heap_alloc_new]; rfl
  go_enter Tryz.func13, Tryz.ntmps13
  go_wp2_with fail
  refine HC.mono ?_
  rintro e w1 ⟨rfl, hR⟩
  have HR := Hid.mk hR
  clear HC hR c0
  go_wp2
  refine bodyPost_ret (by simp [results, Tryz.results13, go_sem]; try rfl) rfl ?_
  exact ⟨rfl, HR.out⟩
theorem open_nilp (z : Int) (w : World) : Calls Tryz.prog 13 #[.pointer none, .int .i64 z] w fun e w' => e = .returned (.tuple #[.pointer none, .int .i64 1]) ∧ Kept [] w w' := by
  refine open_not (R := fun w' => Kept [] w w') ((forTrees_nil _).mono ?_)
  rintro e w1 ⟨rfl, rfl⟩
  exact ⟨rfl, (Kept.refl [] w).alloc _⟩
theorem open_from0 (h : SyP w0 w q p s 0 ct [] fl X) (z : Int) : Calls Tryz.prog 13 #[Pp p, .int .i64 z] w fun e w' => e = .returned (.tuple #[.pointer none, .int .i64 1]) ∧ Kept [] w w' := by
  have k0 : Kept [] w (w.alloc (.cells #[Pp p] 26)) := (Kept.refl [] w).alloc _
  refine open_not (R := fun w' => Kept [] w w') ((forTrees_zero (h.kept k0)).mono ?_)
  rintro e w1 ⟨rfl, k1⟩
  exact ⟨rfl, k0.trans k1 (by simp)⟩
set_option maxRecDepth 100000 in
set_option maxHeartbeats 1000000 in
theorem names_from0 (n z : Int) (w : World) : Calls Tryz.prog 24 #[Pp q, .int .i64 0, .int .i64 n, .int .i64 z] w fun e w' => e = .returned (.tuple #[.slice none 0 0, .int .i64 1]) ∧ Kept [] w w' := by
  have kA : Hid (Kept [] w (((w.alloc (.cells #[Pp q] 30)).alloc (.cells #[.int .i64 0] 3)).alloc (.cells #[.int .i64 n] 3))) := Hid.mk ((((Kept.refl [] w).alloc _).alloc _).alloc _)
  go_enter Tryz.func24, Tryz.ntmps24
  go_wp2
  go_ret2
  exact ⟨rfl, kA.out⟩
set_option maxRecDepth 100000 in
set_option maxHeartbeats 1000000 in
theorem textsOf_no {R : World → Prop} {g : Nat} {z : Int} (c0 : w.cell? ⟨g, 0, none⟩ = some (.int .i64 z)) (HC : Calls Tryz.prog 67 #[Pp p, .int .i64 z] w fun e w1 => e = .returned (.tuple #[.slice none 0 0, .int .i64 5]) ∧ R w1) :
    Calls Tryz.prog 40 #[Pp p, .slice (some ⟨g, 0, none⟩) 1 1] w fun e w' => e = .returned (.tuple #[.slice none 0 0, .int .i64 2]) ∧ R w' := by
  go_enter Tryz.func40, Tryz.ntmps40
  go_wp2_with fail
  go_loopw [6, 13] (fun s i w' => s = .slice none 0 0 ∧ i = .int .i64 0 ∧ w = w') (fun _ _ _ => 0)
  case atStart => exact ⟨rfl, rfl, rfl⟩
  case round =>
    obtain ⟨rfl, rfl, rfl⟩ := hrel
    go_wp2_with fail
    refine HC.mono ?_
    rintro e w1 ⟨rfl, hR⟩
    have HR := Hid.mk hR
    clear HC hR c0
    go_wp2
    go_ret2
    exact ⟨rfl, HR.out⟩
set_option maxRecDepth 100000 in
set_option maxHeartbeats 1000000 in
theorem open1_no {R : World → Prop} {g : Nat} {v : Value} {er : Int} (c0 : w.cell? ⟨g, 0, none⟩ = some (Pp p)) (HC : Calls Tryz.prog 40 #[Pp p, v] w fun e w1 => e = .returned (.tuple #[.slice none 0 0, .int .i64 er]) ∧ R w1) :
    Calls Tryz.prog 39 #[v, Pp g] w fun e w' => e = .returned (.tuple #[.slice none 0 0, .int .i64 er]) ∧ R w' := by
  go_enter Tryz.func39, Tryz.ntmps39
  go_wp2_with fail
  refine HC.mono ?_
  rintro e w1 ⟨rfl, hR⟩
  have HR := Hid.mk hR
  clear HC hR c0
  go_wp2
  go_ret2
  exact ⟨rfl, HR.out⟩
set_option maxRecDepth 100000 in
set_option maxHeartbeats 1000000 in
theorem load_no {R : World → Prop} {g : Nat} {z er : Int} (hz : z ≠ 0) (her : er ≠ 0) (HC : Calls Tryz.prog 39 #[.slice (some ⟨w.heap.size, 0, none⟩) 1 1, Pp g] (w.alloc (.cells #[.int .i64 z] 3)) fun e w1 => e = .returned (.tuple #[.slice none 0 0, .int .i64 er]) ∧ R w1) :
    Calls Tryz.prog 41 #[.func (.func 39) #[] #[Pp g], .int .i64 z] w fun e w' => e = .returned (.tuple #[.pointer none, .int .i64 er]) ∧ R w' := by
  go_enter Tryz.func41, Tryz.ntmps41
  go_wp2_with fail
  refine HC.mono ?_
  rintro e w1 ⟨rfl, hR⟩
  have HR := Hid.mk hR
  clear HC hR
  go_wp2
  go_ret2
  exact ⟨rfl, HR.out⟩
set_option maxRecDepth 100000 in
set_option maxHeartbeats 1000000 in
theorem open_root {R : World → Prop} {z er : Int} (her : er ≠ 0) (HC : Calls Tryz.prog 38 #[Pp p] (w.alloc (.cells #[Pp p] 26)) fun e w1 => e = .returned (.bool true) ∧ Calls Tryz.prog 41 #[.func (.func 39) #[] #[Pp w.heap.size], .int .i64 z] w1 fun e w2 => e = .returned (.tuple #[.pointer none, .int .i64 er]) ∧ R w2) :
    Calls Tryz.prog 13 #[Pp p, .int .i64 z] w fun e w' => e = .returned (.tuple #[.pointer none, .int .i64 er]) ∧ R w' := by
  have c0 : (w.alloc (.cells #[Pp p] 26)).cell? ⟨w.heap.size, 0, none⟩ = some (Pp p) := by unfold World.cell?; rw [heap_alloc_new]; rfl
  go_enter Tryz.func13, Tryz.ntmps13
  go_wp2_with fail
  refine HC.mono ?_
  rintro e w1 ⟨rfl, HC⟩
  clear c0
  go_wp2_with fail
  refine HC.mono ?_
  rintro e w2 ⟨rfl, hR⟩
  have HR := Hid.mk hR
  clear hR HC
  go_wp2
  refine bodyPost_ret (by simp [results, Tryz.results13, go_sem]; try rfl) rfl ?_
  exact ⟨rfl, HR.out⟩
/-- Open of a root that is none. -/
theorem open_none (h : SyP w0 w q p s fr ct [] fl X) (hfr : 1 ≤ fr) (z : Int) (hz : z ≠ 0) (hwf : (Lit.int .i64 z).wf = true) : Calls Tryz.prog 13 #[Pp p, .int .i64 z] w fun e w' => e = .returned (.tuple #[.pointer none, .int .i64 2]) ∧ Kept [] w w' := by
  have k0 : Kept [] w (w.alloc (.cells #[Pp p] 26)) := (Kept.refl [] w).alloc _
  have hb0 : (w.alloc (.cells #[Pp p] 26)).heap[w.heap.size]? = some (.cells #[Pp p] 26 (0, 0)) := heap_alloc_new w _
  refine open_root (by omega) ((forTrees_new (h.kept k0) hfr).mono ?_)
  rintro e w1 ⟨rfl, k1⟩
  have kw1 := k0.trans k1 (by simp)
  have hb1 := k1.keeps hb0 (by simp)
  refine ⟨rfl, load_no hz (by omega) ?_⟩
  obtain ⟨W, hW⟩ : ∃ W, w1.alloc (.cells #[.int .i64 z] 3) = W := ⟨_, rfl⟩
  have kW : Kept [] w1 W := by rw [← hW]; exact (Kept.refl [] w1).alloc _
  have hbW : W.heap[w1.heap.size]? = some (.cells #[.int .i64 z] 3 (0, 0)) := by rw [← hW]; exact heap_alloc_new w1 _
  rw [hW]
  have hb2 := kW.keeps hb1 (by simp)
  have kw := kw1.trans kW (by simp)
  refine open1_no (by simp [World.cell?, hb2]) (textsOf_no (by simp [World.cell?, hbW]) ((psy_get_none (h.kept kw) z hwf (by simp)).mono ?_))
  rintro e w2 ⟨rfl, rfl⟩
  exact ⟨rfl, kw⟩
end
end Go.Proofs.YtaefmhfkjpnbiaaGreat
/-
  Names that are none: whatever int they are.
-/
namespace Go.Proofs.YtaefmhfkjpnbiaaGreat
open Go.RowKit
set_option linter.unusedVariables false

set_option maxRecDepth 100000 in
theorem has_outI (p fr ct : Nat) (i : Int) (w : World) (c1 : w.cell? ⟨p, 1, none⟩ = some (.int .i64 (fr : Int))) (c2 : w.cell? ⟨p, 2, none⟩ = some (.int .i64 (ct : Int))) (h : i < (fr : Int) ∨ (fr : Int) + ct ≤ i) (hb : fr + ct ≤ 65536) (hi : i ≤ 9223372036854775807) :
    Calls Tryz.prog 35 #[.pointer (some ⟨p, 0, none⟩), .int .i64 i] w fun e w' => e = .returned (.bool false) ∧ Kept [] w w' := by
  have kd : ∀ N, Kept [] w (w.drewN N) := fun N => (Kept.refl [] w).drewN N
  by_cases h1 : (fr : Int) ≤ i
  · have hw : IntKind.i64.wrap (i - (fr : Int)) = i - (fr : Int) := by rw [IntKind.wrap_i64]; omega
    have d1 : decide ((fr : Int) ≤ i) = true := decide_eq_true h1
    have d2 : decide (i - (fr : Int) < (ct : Int)) = false := decide_eq_false (by omega)
    go_enter Tryz.func35, Tryz.ntmps35
    go_wp2_with fail
    go_quiet (fail)
    go_wp2
    go_ret
    exact ⟨by first | rfl | (simp; omega) | simp, kd _⟩
  · have d1 : decide ((fr : Int) ≤ i) = false := decide_eq_false h1
    go_enter Tryz.func35, Tryz.ntmps35
    go_wp2_with fail
    go_quiet (fail)
    go_wp2
    go_ret
    exact ⟨by first | rfl | (simp; omega) | simp, kd _⟩
set_option maxRecDepth 100000 in
set_option maxHeartbeats 1000000 in
theorem rd_outI {w : World} {G : List Nat} {p q fr ct : Nat} {T : List (Nat × List Nat)} {fl : List Nat} (hP : IsP w G p q fr ct T fl) (ha : fr + ct ≤ 65536) (i : Int) (ho : i < (fr : Int) ∨ (fr : Int) + ct ≤ i) (hi : i ≤ 9223372036854775807) :
    Calls Tryz.prog 64 #[.pointer (some ⟨p, 0, none⟩), .int .i64 i] w fun e w' => ReadNo w e w' := by
  have fin : ∀ w', Kept [] w w' → ReadNo w (.returned (.tuple #[.slice none 0 0, .slice none 0 0, .int .i64 0])) w' := fun w' h => ⟨rfl, h⟩
  generalize ReadNo w = Z at fin
  have k0 := kept_alloc w (.cells #[.bool false, .int .i64 0, .int .i64 0, .slice none 0 0] 161)
  obtain ⟨-, c1, c2⟩ := (hP.kept k0 (by simp)).cells
  have hh := has_outI p fr ct i _ c1 c2 ho ha hi
  clear c1 c2
  go_enter Tryz.func64, Tryz.ntmps64
  go_wp2_with fail
  generalize w.alloc (.cells #[.bool false, .int .i64 0, .int .i64 0, .slice none 0 0] 161) = w0 at k0 hh
  go_loopw [10] (fun j wr => j = .int .i64 i ∧ wr = w0) (fun _ _ => 0)
  case atStart => exact ⟨rfl, rfl⟩
  case round =>
    obtain ⟨rfl, rfl⟩ := hrel
    go_wp2_with fail
    refine hh.mono ?_
    rintro e w1 ⟨rfl, k1⟩
    have hf := Hid.mk (fin _ (k0.trans k1 (by simp)))
    clear fin
    go_wp2
    refine bodyPost_ret (results_tmp3 rfl _ _ _) rfl ?_
    exact hf.out
set_option maxRecDepth 100000 in
set_option maxHeartbeats 400000 in
theorem take_outI {w : World} {G : List Nat} {p q fr ct : Nat} {fl : List Nat} (hP : IsP w G p q fr ct [] fl) (ha : fr + ct ≤ 65536) (i : Int) (ho : i < (fr : Int) ∨ (fr : Int) + ct ≤ i) (hwf : (Lit.int .i64 i).wf = true) (hi : i ≤ 9223372036854775807) : Calls Tryz.prog 36 #[.pointer (some ⟨p, 0, none⟩), .int .i64 i] w fun e w' => e = .returned (.int .i64 2) ∧ Kept [] w w' := by
  have hrd := rd_outI hP ha i ho hi
  obtain ⟨mb, M, c3, hM, hTM, hR, -⟩ := hP.map
  have hl := hM.look_none hwf (IsP.noKey hTM (fun x hx e => by simp at hx))
  clear hP hM hR
  go_enter Tryz.func36, Tryz.ntmps36
  go_wp2_with fail
  refine hrd.mono ?_
  rintro e w1 ⟨rfl, k1⟩
  go_wp2
  go_ret
  exact ⟨rfl, k1⟩
set_option maxRecDepth 100000 in
set_option maxHeartbeats 2000000 in
theorem open_outI {w : World} {F : List Nat} {q fr ct : Nat} {s : St} (hD : IsD w F q s) (hd : s.down = false) (h1 : 1 ≤ ct) (ha : fr + ct ≤ s.nb) (i : Int) (ho : i < (fr : Int) ∨ (fr : Int) + ct ≤ i) (hwf : (Lit.int .i64 i).wf = true) (hi : i ≤ 9223372036854775807) {g : Nat} (hc : w.heap[g]? = some (.cells #[.int .i64 i] 3 (0, 0))) :
    Calls Tryz.prog 11 #[Pp q, .int .i64 (fr : Int), .int .i64 (ct : Int), .slice (some ⟨g, 0, none⟩) 1 1] w fun e w' => e = .returned (.tuple #[.pointer none, .int .i64 2]) ∧ Kept [] w w' := by
  have hnb := hD.ok.nb
  have hb := blocks_any hD
  have f1 : ((fr : Int) < 0) = False := eq_false (by omega)
  have f2 : ((ct : Int) < 1) = False := eq_false (by omega)
  have f3 : ((s.nb : Int) - (fr : Int) < (ct : Int)) = False := eq_false (by omega)
  have hmm := @run_makeMap Tryz.prog
  have kN : Kept [] w ((w.alloc (.map #[] 0)).alloc (.cells #[.pointer (some ⟨q, 0, none⟩), .int .i64 (fr : Int), .int .i64 (ct : Int), .map (some w.heap.size), .slice none 0 0] 65)) := (kept_alloc w _).alloc _
  have hPN := IsP.new w q fr ct
  have hDn := down_any (hD.kept kN (by simp))
  rw [hd] at hDn
  go_enter Tryz.func11, Tryz.ntmps11
  go_wp2_with fail
  refine hb.mono ?_
  rintro e w' ⟨rfl, rfl⟩
  clear hb
  go_wp2_with fail
  refine hDn.mono ?_
  rintro e w' ⟨rfl, rfl⟩
  clear hDn hmm
  generalize hw1 : (w.alloc (.map #[] 0)).alloc (.cells #[.pointer (some ⟨q, 0, none⟩), .int .i64 (fr : Int), .int .i64 (ct : Int), .map (some w.heap.size), .slice none 0 0] 65) = w1 at kN hPN
  clear hw1
  obtain ⟨p, hp⟩ : ∃ p, Hid (w.heap.size + 1 = p) := ⟨_, rfl⟩
  rw [hp.out] at hPN ⊢
  have hc1 := kN.keeps hc (by simp)
  have d0 : w1.cell? ⟨g, 0, none⟩ = some (.int .i64 i) := by simp [World.cell?, hc1]
  have htake := take_outI hPN (by omega) i ho hwf hi
  have HK := Hid.mk kN
  clear hPN kN hc hc1 hD
  go_wp2_with fail
  go_loopw [44] (fun j wr => j = .int .i64 0 ∧ wr = w1) (fun _ _ => 0)
  case atStart => exact ⟨rfl, rfl⟩
  case round =>
    obtain ⟨rfl, rfl⟩ := hrel
    go_wp2_with fail
    refine htake.mono ?_
    rintro e w2 ⟨rfl, k2⟩
    have HF := Hid.mk (HK.out.trans k2 (by simp))
    clear htake k2 d0
    go_wp2
    go_ret2
    exact ⟨rfl, HF.out⟩
end Go.Proofs.YtaefmhfkjpnbiaaGreat
/-
  Names, of an area where no text lies.
-/
namespace Go.Proofs.YtaefmhfkjpnbiaaGreat
open Go.RowKit Go.Maps Go.Sort Go.Shelf
set_option linter.unusedVariables false

section
variable {w : World} {q : Nat}
set_option maxRecDepth 100000 in
set_option maxHeartbeats 1000000 in
theorem names1_no {R : World → Prop} {g1 g2 g3 : Nat} {v : Value} {fr ct er : Int} (her : er ≠ 0) (c1 : w.cell? ⟨g1, 0, none⟩ = some (Pp q)) (c2 : w.cell? ⟨g2, 0, none⟩ = some (.int .i64 fr)) (c3 : w.cell? ⟨g3, 0, none⟩ = some (.int .i64 ct)) (HC : Calls Tryz.prog 11 #[Pp q, .int .i64 fr, .int .i64 ct, v] w fun e w1 => e = .returned (.tuple #[.pointer none, .int .i64 er]) ∧ R w1) :
    Calls Tryz.prog 59 #[v, Pp g1, Pp g2, Pp g3] w fun e w' => e = .returned (.tuple #[.slice none 0 0, .int .i64 er]) ∧ R w' := by
  go_enter Tryz.func59, Tryz.ntmps59
  go_wp2_with fail
  refine HC.mono ?_
  rintro e w1 ⟨rfl, hR⟩
  have HR := Hid.mk hR
  clear HC hR c1 c2 c3
  go_wp2
  go_ret2
  exact ⟨rfl, HR.out⟩
set_option maxRecDepth 100000 in
set_option maxHeartbeats 1000000 in
theorem load59_no {R : World → Prop} {g1 g2 g3 : Nat} {z er : Int} (hz : z ≠ 0) (her : er ≠ 0) (HC : Calls Tryz.prog 59 #[.slice (some ⟨w.heap.size, 0, none⟩) 1 1, Pp g1, Pp g2, Pp g3] (w.alloc (.cells #[.int .i64 z] 3)) fun e w1 => e = .returned (.tuple #[.slice none 0 0, .int .i64 er]) ∧ R w1) :
    Calls Tryz.prog 41 #[.func (.func 59) #[] #[Pp g1, Pp g2, Pp g3], .int .i64 z] w fun e w' => e = .returned (.tuple #[.pointer none, .int .i64 er]) ∧ R w' := by
  go_enter Tryz.func41, Tryz.ntmps41
  go_wp2_with fail
  refine HC.mono ?_
  rintro e w1 ⟨rfl, hR⟩
  have HR := Hid.mk hR
  clear HC hR
  go_wp2
  go_ret2
  exact ⟨rfl, HR.out⟩
/-- Names, up to load. -/
def NamesF (q : Nat) (fr ct z : Int) (P : Ending → World → Prop) (w : World) : Prop :=
  Calls Tryz.prog 11 #[Pp q, .int .i64 fr, .int .i64 ct, .slice none 0 0] (((w.alloc (.cells #[Pp q] 30)).alloc (.cells #[.int .i64 fr] 3)).alloc (.cells #[.int .i64 ct] 3)) fun e w1 => ∃ p, e = .returned (.tuple #[Pp p, .int .i64 0]) ∧ w1.cell? ⟨w.heap.size, 0, none⟩ = some (Pp q) ∧ Calls Tryz.prog 31 #[Pp q] w1 fun e w2 => e = .returned (.bool false) ∧ Calls Tryz.prog 41 #[.func (.func 59) #[] #[Pp w.heap.size, Pp (w.heap.size + 1), Pp (w.heap.size + 1 + 1)], .int .i64 z] w2 P
set_option maxRecDepth 100000 in
set_option maxHeartbeats 1000000 in
theorem names_no {R : World → Prop} {fr ct z er : Int} (hfr : fr ≠ 0) (her : er ≠ 0) (HC : NamesF q fr ct z (fun e w3 => e = .returned (.tuple #[.pointer none, .int .i64 er]) ∧ R w3) w) :
    Calls Tryz.prog 24 #[Pp q, .int .i64 fr, .int .i64 ct, .int .i64 z] w fun e w' => e = .returned (.tuple #[.slice none 0 0, .int .i64 er]) ∧ R w' := by
  unfold NamesF at HC
  go_enter Tryz.func24, Tryz.ntmps24
  go_wp2_with fail
  refine HC.mono ?_
  rintro e w1 ⟨p, rfl, c1, HC⟩
  go_wp2_with fail
  refine HC.mono ?_
  rintro e w2 ⟨rfl, HC⟩
  clear c1
  go_wp2_with fail
  refine HC.mono ?_
  rintro e w3 ⟨rfl, hR⟩
  have HR := Hid.mk hR
  clear hR HC
  go_wp2
  go_ret2
  exact ⟨rfl, HR.out⟩
set_option maxRecDepth 100000 in
set_option maxHeartbeats 1000000 in
theorem names_yes {R : World → Prop} {fr ct z : Int} (hfr : fr ≠ 0) (HC : NamesF q fr ct z (fun e w3 => e = .returned (.tuple #[.pointer none, .int .i64 0]) ∧ Calls Tryz.prog 60 #[.pointer none] w3 fun e w4 => ∃ g : Nat, e = .returned (.func (.func 92) #[] #[Pp g]) ∧ Calls Tryz.prog 51 #[.func (.func 92) #[] #[Pp g]] w4 fun e w5 => ∃ v, e = .returned v ∧ v.oneCell' = true ∧ R w5) w) :
    Calls Tryz.prog 24 #[Pp q, .int .i64 fr, .int .i64 ct, .int .i64 z] w fun e w' => ∃ v, e = .returned (.tuple #[v, .int .i64 0]) ∧ v.oneCell' = true ∧ R w' := by
  unfold NamesF at HC
  go_enter Tryz.func24, Tryz.ntmps24
  go_wp2_with fail
  refine HC.mono ?_
  rintro e w1 ⟨p, rfl, c1, HC⟩
  go_wp2_with fail
  refine HC.mono ?_
  rintro e w2 ⟨rfl, HC⟩
  clear c1
  go_wp2_with fail
  refine HC.mono ?_
  rintro e w3 ⟨rfl, HC⟩
  go_wp2_with fail
  refine HC.mono ?_
  rintro e w4 ⟨g, rfl, HC⟩
  go_wp2_with fail
  refine HC.mono ?_
  rintro e w5 ⟨v, rfl, h1, hR⟩
  have HR := Hid.mk (And.intro h1 hR)
  clear hR HC h1
  go_wp2
  go_ret2
  exact ⟨v, rfl, HR.out⟩
set_option maxRecDepth 100000 in
theorem names60_nil (w : World) : Calls Tryz.prog 60 #[.pointer none] w fun e w' => e = .returned (.func (.func 92) #[] #[Pp w.heap.size]) ∧ w' = w.alloc (.cells #[.pointer none] 77) := by
  go_enter Tryz.func60, Tryz.ntmps60
  go_wp2
  go_ret
  exact ⟨rfl, rfl⟩
set_option maxRecDepth 100000 in
theorem seq92 {g : Nat} (hc : w.heap[g]? = some (.cells #[.pointer none] 77 (0, 0))) : SeqGives Fence.wide 2 Tryz.prog 92 #[Pp g] encZ (fun ss => ss = []) 0 w := by
  intro l J W hW hJ hY h0
  have hlt : g < w.heap.size := (Array.getElem?_eq_some_iff.1 hc).1
  have hcW : W.heap[g]? = some (.cells #[.pointer none] 77 (0, 0)) := by rw [hW.block g hlt]; exact hc
  have c0 : W.cell? ⟨g, 0, none⟩ = some (.pointer none) := by simp [World.cell?, hcW]
  have HJ := Hid.mk h0
  clear hY hJ h0 hcW hc
  refine (callsIn_wide (n := 2)).2 ?_
  show Calls Tryz.prog 92 #[.func (.yield l) #[] #[], Pp g] W _
  go_enter Tryz.func92, Tryz.ntmps92
  go_wp2
  go_end0
  exact ⟨⟨_, rfl⟩, [], rfl, HJ.out⟩
theorem sorted92 {g : Nat} (hc : w.heap[g]? = some (.cells #[.pointer none] 77 (0, 0))) : Calls Tryz.prog 51 #[.func (.func 92) #[] #[Pp g]] w fun e w' => ∃ v, e = .returned v ∧ v.oneCell' = true ∧ Kept [] w w' := by
  have cS := AnyZI.sorted_in sortedA Fence.wide 5 trivial trivial trivial trivial rfl (by omega) (sortsA _) (enters_of Tryz.func86 (by kernel_rfl) rfl) 92 #[Pp g] trivial (enters_of Tryz.func92 (by kernel_rfl) rfl) _ 0 (by unfold maxLen; omega) (by omega) _ (seq92 hc)
  change CallsIn _ _ Tryz.prog 51 _ _ _ at cS
  refine ((callsIn_wide (n := 5)).1 cS).mono ?_
  rintro e w' ⟨v, ss, rfl, hS, hrow, hnil, hb⟩
  refine ⟨v, rfl, ?_, Below.kept hb⟩
  rcases hrow.2 with ⟨rfl, _⟩ | ⟨_, _, _, rfl, _⟩ <;> rfl
end
end Go.Proofs.YtaefmhfkjpnbiaaGreat
/-
  TreeNil, its calls in their order, and whole.
-/
namespace Go.Proofs.YtaefmhfkjpnbiaaGreat
open Go.RowKit
set_option linter.unusedVariables false

section
variable {w : World}
theorem names_at {F : List Nat} {q fr ct nb : Nat} (hD : IsD w F q ⟨nb, [], -1, false⟩) (hfr : 1 ≤ fr) (hct : 1 ≤ ct) (ha : fr + ct ≤ nb) (z : Int) (hwf : (Lit.int .i64 z).wf = true) (hz : z ≤ 9223372036854775807) : Calls Tryz.prog 24 #[Pp q, .int .i64 (fr : Int), .int .i64 (ct : Int), .int .i64 z] w fun e w' => ∃ v er, e = .returned (.tuple #[v, .int .i64 er]) ∧ v.oneCell' = true ∧ (z ≠ 0 → er = 2) ∧ Kept [] w w' := by
  have hnb : nb ≤ 65536 := hD.ok.nb
  obtain ⟨W, hW⟩ : ∃ W, ((w.alloc (.cells #[Pp q] 30)).alloc (.cells #[.int .i64 (fr : Int)] 3)).alloc (.cells #[.int .i64 (ct : Int)] 3) = W := ⟨_, rfl⟩
  have k1 : Kept [] (w.alloc (.cells #[Pp q] 30)) W := by rw [← hW]; exact ((Kept.refl [] _).alloc _).alloc _
  have k2 : Kept [] ((w.alloc (.cells #[Pp q] 30)).alloc (.cells #[.int .i64 (fr : Int)] 3)) W := by rw [← hW]; exact (Kept.refl [] _).alloc _
  have kW : Kept [] w W := by rw [← hW]; exact (((Kept.refl [] w).alloc _).alloc _).alloc _
  have b1 : W.heap[w.heap.size]? = some (.cells #[Pp q] 30 (0, 0)) := k1.keeps (heap_alloc_new w _) (by simp)
  have b2 : W.heap[w.heap.size + 1]? = some (.cells #[.int .i64 (fr : Int)] 3 (0, 0)) := k2.keeps (by simpa using heap_alloc_new (w.alloc (.cells #[Pp q] 30)) (.cells #[.int .i64 (fr : Int)] 3)) (by simp)
  have b3 : W.heap[w.heap.size + 1 + 1]? = some (.cells #[.int .i64 (ct : Int)] 3 (0, 0)) := by
    rw [← hW]
    simpa using heap_alloc_new ((w.alloc (.cells #[Pp q] 30)).alloc (.cells #[.int .i64 (fr : Int)] 3)) (.cells #[.int .i64 (ct : Int)] 3)
  have hDW := hD.kept kW (by simp)
  have hF : ∀ P : Ending → World → Prop, (∀ w2, Kept [] W w2 → Calls Tryz.prog 41 #[.func (.func 59) #[] #[Pp w.heap.size, Pp (w.heap.size + 1), Pp (w.heap.size + 1 + 1)], .int .i64 z] w2 P) → NamesF q (fr : Int) (ct : Int) z P w := fun P hP => by
    unfold NamesF
    rw [hW]
    refine (openP_any hDW rfl hct ha [] (by simp) (by simp) none 0 (ReadsI.nil W) [] ⟨by simp, by simp, by simp⟩ true (by simp) (.inl ⟨rfl, rfl⟩)).mono ?_
    rintro e w1 ⟨k', ⟨_, p, G, rfl, _, _⟩ | ⟨h, _⟩⟩
    · have hb := k'.keeps b1 (by simp)
      refine ⟨p, rfl, by simp [World.cell?, hb], (down_any (hDW.kept k' (by simp))).mono ?_⟩
      rintro e w2 ⟨rfl, rfl⟩
      exact ⟨rfl, hP w1 k'⟩
    · cases h
  have hfr0 : (fr : Int) ≠ 0 := by omega
  by_cases h0 : z = 0
  · subst h0
    refine (names_yes (R := Kept [] w) hfr0 (hF _ fun w2 kw2 => (load_zero _ w2).mono ?_)).mono ?_
    · rintro e w3 ⟨rfl, rfl⟩
      refine ⟨rfl, (names60_nil w2).mono ?_⟩
      rintro e w4 ⟨rfl, rfl⟩
      refine ⟨w2.heap.size, rfl, (sorted92 (heap_alloc_new w2 _)).mono ?_⟩
      rintro e w5 ⟨v, rfl, hv, k5⟩
      exact ⟨v, rfl, hv, ((kW.trans kw2 (by simp)).alloc _).trans k5 (by simp)⟩
    · rintro e w' ⟨v, rfl, hv, k⟩
      exact ⟨v, 0, rfl, hv, fun h => absurd rfl h, k⟩
  · refine (names_no (R := Kept [] w) (er := 2) hfr0 (by omega) (hF _ fun w2 kw2 => load59_no h0 (by omega) ?_)).mono ?_
    · obtain ⟨W2, hW2⟩ : ∃ W2, w2.alloc (.cells #[.int .i64 z] 3) = W2 := ⟨_, rfl⟩
      have kW2 : Kept [] w2 W2 := by rw [← hW2]; exact (Kept.refl [] w2).alloc _
      have hbW : W2.heap[w2.heap.size]? = some (.cells #[.int .i64 z] 3 (0, 0)) := by rw [← hW2]; exact heap_alloc_new w2 _
      have kWW := kw2.trans kW2 (by simp)
      have g1 := kWW.keeps b1 (by simp)
      have g2 := kWW.keeps b2 (by simp)
      have g3 := kWW.keeps b3 (by simp)
      have kw := kW.trans kWW (by simp)
      rw [hW2]
      refine names1_no (q := q) (fr := (fr : Int)) (ct := (ct : Int)) (by omega) (by simp [World.cell?, g1]) (by simp [World.cell?, g2]) (by simp [World.cell?, g3]) ?_
      have hD2 := hD.kept kw (by simp)
      by_cases ho : z < (fr : Int) ∨ (fr : Int) + ct ≤ z
      · refine (open_outI hD2 rfl hct ha z ho hwf hz hbW).mono ?_
        rintro e w3 ⟨rfl, k3⟩
        exact ⟨rfl, kw.trans k3 (by simp)⟩
      · obtain ⟨n, rfl⟩ : ∃ n : Nat, z = (n : Int) := ⟨z.toNat, by omega⟩
        have hr : ReadsI W2 (.slice (some ⟨w2.heap.size, 0, none⟩) ([n] : List Nat).length 1) [n] := ⟨_, 1, rfl, by simp, by unfold maxLen; omega, by simp, fun _ => ⟨w2.heap.size, 0, rfl, fun j u hu => by
          cases j with
          | zero => simp at hu; subst hu; simp [World.cell?, hbW]
          | succ j => simp at hu⟩⟩
        refine (openP_any hD2 rfl hct ha [n] (by simp) (fun x hx => by simp at hx; show x < 65536; omega) _ 1 hr [] ⟨by simp, by simp, by simp⟩ false (by simp) (.inr ⟨rfl, n, rfl, .inr (.inr ?_)⟩)).mono ?_
        · have e : blk ([] : List Wr) n = zs 256 := rfl
          show ¬ isPart (plc n n) (blk ([] : List Wr) n)
          rw [e]
          exact not_part_zs _
        · rintro e w3 ⟨k', ⟨h, _⟩ | ⟨_, rfl⟩⟩
          · cases h
          · exact ⟨rfl, kw.trans k' (by simp)⟩
    · rintro e w' ⟨rfl, k⟩
      exact ⟨_, 2, rfl, rfl, fun _ => rfl, k⟩
set_option maxRecDepth 100000 in
theorem tkeys_nil (f to : List UInt8) (w : World) : Calls Tryz.prog 20 #[.pointer none, Sv f, Sv to] w fun e w' => e = .returned (.slice none 0 0) ∧ Kept [] w w' := by
  have kA : Hid (Kept [] w (w.alloc (.cells #[Sv to] 9))) := Hid.mk ((Kept.refl [] w).alloc _)
  go_enter Tryz.func20, Tryz.ntmps20
  go_wp2
  go_ret
  exact ⟨rfl, kA.out⟩
/-- From the nil tree's calls on. -/
def NilT (key : List UInt8) (v0 : Value) (R : World → Prop) (w : World) : Prop :=
  Calls Tryz.prog 18 #[.pointer none] w fun e w1 => e = .returned (.tuple #[]) ∧ Calls Tryz.prog 22 #[.pointer none, Sv key] w1 fun e w2 => e = .returned (.tuple #[.slice none 0 0, .bool false]) ∧ Calls Tryz.prog 25 #[.pointer none] w2 fun e w3 => e = .returned (.int .i64 0) ∧ Calls Tryz.prog 20 #[.pointer none, Sv [], Sv []] w3 fun e w4 => e = .returned (.slice none 0 0) ∧ Calls Tryz.prog 14 #[.pointer none, v0] w4 fun e w5 => e = .returned (.int .i64 1) ∧ R w5
/-- What Open answers of the root z. -/
def NilX (z : Int) (px : Option Addr) (ex : Int) : Prop := (z = 0 ∧ px.isSome = true) ∨ (z ≠ 0 ∧ px = none ∧ ex = 2)
def NilF (z : Int) (key : List UInt8) (v0 : Value) (R : World → Prop) (w : World) : Prop :=
  Calls Tryz.prog 13 #[.pointer none, .int .i64 z] w fun e w1 => e = .returned (.tuple #[.pointer none, .int .i64 1]) ∧
  Calls Tryz.prog 12 #[.int .i64 31] w1 fun e w2 => ∃ q, e = .returned (Pp q) ∧ Calls Tryz.prog 11 #[Pp q, .int .i64 1, .int .i64 30, .slice none 0 0] w2 fun e w3 => ∃ p, e = .returned (.tuple #[Pp p, .int .i64 0]) ∧
  Calls Tryz.prog 13 #[Pp p, .int .i64 z] w3 fun e w4 => ∃ px ex, e = .returned (.tuple #[.pointer px, .int .i64 ex]) ∧ NilX z px ex ∧
  Calls Tryz.prog 12 #[.int .i64 31] w4 fun e w5 => ∃ q2, e = .returned (Pp q2) ∧ Calls Tryz.prog 24 #[Pp q2, .int .i64 1, .int .i64 30, .int .i64 z] w5 fun e w6 => ∃ v er, e = .returned (.tuple #[v, .int .i64 er]) ∧ v.oneCell' = true ∧ (z ≠ 0 → er = 2) ∧
  Calls Tryz.prog 12 #[.int .i64 9] w6 fun e w7 => ∃ q3, e = .returned (Pp q3) ∧ Calls Tryz.prog 11 #[Pp q3, .int .i64 0, .int .i64 9, .slice none 0 0] w7 fun e w8 => ∃ p3, e = .returned (.tuple #[Pp p3, .int .i64 0]) ∧
  Calls Tryz.prog 13 #[Pp p3, .int .i64 z] w8 fun e w9 => e = .returned (.tuple #[.pointer none, .int .i64 1]) ∧
  Calls Tryz.prog 12 #[.int .i64 9] w9 fun e w10 => ∃ q4, e = .returned (Pp q4) ∧ Calls Tryz.prog 24 #[Pp q4, .int .i64 0, .int .i64 9, .int .i64 z] w10 fun e w11 => e = .returned (.tuple #[.slice none 0 0, .int .i64 1]) ∧ NilT key v0 R w11
def NilB (z : Int) (key : List UInt8) (v0 : Value) (R : World → Prop) (w : World) (b : Bool) : Prop :=
  (b = false ∧ Calls Tryz.prog 9 #[] w fun e w1 => e = .returned (.bool true) ∧ R w1) ∨ (b = true ∧ NilF z key v0 R w)
set_option maxRecDepth 100000 in
set_option maxHeartbeats 4000000 in
theorem nil_walk {R : World → Prop} {a0 : Option Addr} {l0 c0 : Nat} {z : Int} {key : List UInt8}
    (HC : Calls Tryz.prog 9 #[] w fun e w1 => e = .returned (.bool true) ∧ Calls Tryz.prog 10 #[.slice (some ⟨w1.heap.size, 0, none⟩) 1 1] (w1.alloc (.cells #[.slice a0 l0 c0] 40)) fun e w2 => ∃ b : Bool, e = .returned (.bool b) ∧ NilB z key (.slice a0 l0 c0) R w2 b) :
    Calls Tryz.prog 7 #[.int .i64 z, Sv key, .slice a0 l0 c0] w fun e w' => e = .returned (.bool true) ∧ R w' := by
  go_enter Tryz.func7, Tryz.ntmps7
  go_wp2_with fail
  refine HC.mono ?_
  rintro e w1 ⟨rfl, HC⟩
  go_wp2_with fail
  refine HC.mono ?_
  rintro e w2 ⟨b, rfl, ⟨rfl, HC⟩ | ⟨rfl, HC⟩⟩
  · go_wp2_with fail
    refine HC.mono ?_
    rintro e w3 ⟨rfl, hR⟩
    have HR := Hid.mk hR
    clear hR HC
    go_wp2
    go_ret
    exact ⟨rfl, HR.out⟩
  · unfold NilF at HC
    go_wp2_with fail
    refine HC.mono ?_
    rintro e w3 ⟨rfl, HC⟩
    go_wp2_with fail
    refine HC.mono ?_
    rintro e w4 ⟨q, rfl, HC⟩
    go_wp2_with fail
    refine HC.mono ?_
    rintro e w5 ⟨p, rfl, HC⟩
    go_wp2_with fail
    refine HC.mono ?_
    rintro e w6 ⟨px, ex, rfl, hx, HC⟩
    have HX := Hid.mk hx
    clear hx
    go_wp2_with fail
    refine HC.mono ?_
    rintro e w7 ⟨q2, rfl, HC⟩
    go_wp2_with fail
    refine HC.mono ?_
    rintro e w8 ⟨v, er, rfl, hv1, hv2, HC⟩
    have HV := Hid.mk hv2
    clear hv2
    go_wp2_with fail
    refine HC.mono ?_
    rintro e w9 ⟨q3, rfl, HC⟩
    go_wp2_with fail
    refine HC.mono ?_
    rintro e w10 ⟨p3, rfl, HC⟩
    go_wp2_with fail
    refine HC.mono ?_
    rintro e w11 ⟨rfl, HC⟩
    go_wp2_with fail
    refine HC.mono ?_
    rintro e w12 ⟨q4, rfl, HC⟩
    go_wp2_with fail
    refine HC.mono ?_
    rintro e w13 ⟨rfl, HC⟩
    unfold NilT at HC
    go_wp2_with fail
    refine HC.mono ?_
    rintro e w14 ⟨rfl, HC⟩
    go_wp2_with fail
    refine HC.mono ?_
    rintro e w15 ⟨rfl, HT⟩
    clear HC
    rcases HX.out with ⟨rfl, hpx⟩ | ⟨hz, rfl, rfl⟩
    · obtain ⟨ad, rfl⟩ := Option.isSome_iff_exists.1 hpx
      clear hpx HX HV
      go_wp2_with fail
      refine HT.mono ?_
      rintro e w16 ⟨rfl, HT⟩
      go_wp2_with fail
      refine HT.mono ?_
      rintro e w17 ⟨rfl, HT⟩
      go_wp2_with fail
      refine HT.mono ?_
      rintro e w18 ⟨rfl, hR⟩
      have HR := Hid.mk hR
      clear hR HT
      go_wp2
      go_ret
      exact ⟨rfl, HR.out⟩
    · obtain rfl := HV.out hz
      have hz2 : (z == 0) = false := by simpa using hz
      clear HX HV
      go_wp2_with fail
      refine HT.mono ?_
      rintro e w16 ⟨rfl, HT⟩
      go_wp2_with fail
      refine HT.mono ?_
      rintro e w17 ⟨rfl, HT⟩
      go_wp2_with fail
      refine HT.mono ?_
      rintro e w18 ⟨rfl, hR⟩
      have HR := Hid.mk hR
      clear hR HT
      go_wp2
      go_ret
      exact ⟨rfl, HR.out⟩
end
end Go.Proofs.YtaefmhfkjpnbiaaGreat
/-
  TreeNil, whole.
-/
namespace Go.Proofs.YtaefmhfkjpnbiaaGreat
open Go.RowKit
set_option linter.unusedVariables false

set_option maxRecDepth 100000 in
theorem nil_all (w : World) {a0 : Option Addr} {c0 : Nat} {rs : List Cq} {z : Int} {key : List UInt8} (hwf : (Lit.int .i64 z).wf = true) (hz : z ≤ 9223372036854775807) (hr : RowQ w (.slice a0 rs.length c0) rs) (hi : InQ rs) :
    Calls Tryz.prog 7 #[.int .i64 z, Sv key, .slice a0 rs.length c0] w fun e w' => e = .returned (.bool true) ∧ Kept [] w w' := by
  refine nil_walk (R := Kept [] w) ((awake_any w).mono ?_)
  rintro e w1 ⟨rfl, k1⟩
  obtain ⟨W1, hW1⟩ : ∃ W1, w1.alloc (.cells #[.slice a0 rs.length c0] 40) = W1 := ⟨_, rfl⟩
  have kW : Kept [] w1 W1 := by rw [← hW1]; exact (Kept.refl [] w1).alloc _
  have hb : W1.heap[w1.heap.size]? = some (.cells #[.slice a0 rs.length c0] 40 (0, 0)) := by rw [← hW1]; exact heap_alloc_new w1 _
  have kk1 := k1.trans kW (by simp)
  rw [hW1]
  have hL : RowL W1 (.slice (some ⟨w1.heap.size, 0, none⟩) 1 1) [⟨rs, a0, c0⟩] := by
    refine ⟨⟨_, 1, rfl, by simp [CL], by unfold maxLen; omega, by simp, fun _ => ⟨w1.heap.size, 0, rfl, fun j r hj i x hx => ?_⟩⟩, fun l hl => ?_⟩
    · cases j with
      | zero =>
        simp [CL] at hj
        subst hj
        cases i with
        | zero => simp at hx; subst hx; simp [World.cell?, hb]
        | succ i => simp at hx
      | succ j => simp [CL] at hj
    · simp at hl
      subst hl
      exact hr.kept kk1 (by simp)
  have hin : ∀ l ∈ ([⟨rs, a0, c0⟩] : List Lq), l.rs.length ≤ 4398046511104 ∧ ∀ x ∈ l.rs, x.c.val.length ≤ 140737488355328 ∧ x.c.key.length ≤ 140737488355328 := fun l hl => by
    simp only [List.mem_cons, List.not_mem_nil, or_false] at hl
    subst hl
    exact hi
  refine ⟨rfl, (few_any (N := 1) (ls := [⟨rs, a0, c0⟩]) (Hid.mk rfl) (by omega) hL (Hid.mk hin)).mono ?_⟩
  rintro e w2 ⟨b, rfl, k2, hfew⟩
  refine ⟨b, rfl, ?_⟩
  have kk2 := kk1.trans k2 (by simp)
  cases b with
  | false => exact .inl ⟨rfl, (awake_any w2).mono fun e w3 ⟨he, k3⟩ => ⟨he, kk2.trans k3 (by simp)⟩⟩
  | true =>
    refine .inr ⟨rfl, ?_⟩
    unfold NilF
    refine (open_nilp z w2).mono ?_
    rintro e w3 ⟨rfl, k3⟩
    have kk3 := kk2.trans k3 (by simp)
    refine ⟨rfl, (psy_new (w0 := w) kk3 31 1 30 (by omega) (by omega) (by omega)).mono ?_⟩
    rintro e w4 ⟨q, rfl, k4, h11⟩
    refine ⟨q, rfl, (h11 w4 (Kept.refl [] w4)).mono ?_⟩
    rintro e w5 ⟨p, fl, rfl, hfl, hsy, k5⟩
    refine ⟨p, rfl, ?_⟩
    have hopen : Calls Tryz.prog 13 #[Pp p, .int .i64 z] w5 fun e w4 => ∃ px ex, e = .returned (.tuple #[.pointer px, .int .i64 ex]) ∧ NilX z px ex ∧ Kept [] w5 w4 := by
      by_cases h0 : z = 0
      · subst h0
        refine (open_new hsy (by omega) (fun b hb => hb.elim) (fun b hb => hb.elim)).mono ?_
        rintro e w6 ⟨tb, rfl, _, _, k6⟩
        exact ⟨_, 0, rfl, .inl ⟨rfl, rfl⟩, k6⟩
      · refine (open_none hsy (by omega) z h0 hwf).mono ?_
        rintro e w6 ⟨rfl, k6⟩
        exact ⟨none, 2, rfl, .inr ⟨h0, rfl, rfl⟩, k6⟩
    refine hopen.mono ?_
    rintro e w6 ⟨px, ex, rfl, hX, k6⟩
    have kk6 := hsy.k.trans k6 (by simp)
    refine ⟨px, ex, rfl, hX, (new_nb 31 (by omega) w6).mono ?_⟩
    rintro e w7 ⟨q2, rfl, F2, hD2, k7, _⟩
    refine ⟨q2, rfl, (names_at hD2 (by omega : 1 ≤ 1) (by omega : 1 ≤ 30) (by omega) z hwf hz).mono ?_⟩
    rintro e w8 ⟨v, er, rfl, hv, her, k8⟩
    have kk8 := (kk6.trans k7 (by simp)).trans k8 (by simp)
    refine ⟨v, er, rfl, hv, her, (psy_new (w0 := w) kk8 9 0 9 (by omega) (by omega) (by omega)).mono ?_⟩
    rintro e w9 ⟨q3, rfl, k9, h11'⟩
    refine ⟨q3, rfl, (h11' w9 (Kept.refl [] w9)).mono ?_⟩
    rintro e w10 ⟨p3, fl3, rfl, hfl3, hsy3, k10⟩
    refine ⟨p3, rfl, (open_from0 hsy3 z).mono ?_⟩
    rintro e w11 ⟨rfl, k11⟩
    have kk11 := hsy3.k.trans k11 (by simp)
    refine ⟨rfl, (new_nb 9 (by omega) w11).mono ?_⟩
    rintro e w12 ⟨q4, rfl, F4, hD4, k12, _⟩
    refine ⟨q4, rfl, (names_from0 9 z w12).mono ?_⟩
    rintro e w13 ⟨rfl, k13⟩
    have kk13 := (kk11.trans k12 (by simp)).trans k13 (by simp)
    refine ⟨rfl, (tsettle_nil w13).mono ?_⟩
    rintro e w14 ⟨rfl, rfl⟩
    refine ⟨rfl, (tget_nil _ w13).mono ?_⟩
    rintro e w15 ⟨rfl, rfl⟩
    refine ⟨rfl, (troot_nil w13).mono ?_⟩
    rintro e w16 ⟨rfl, rfl⟩
    refine ⟨rfl, (tkeys_nil [] [] w13).mono ?_⟩
    rintro e w17 ⟨rfl, k17⟩
    refine ⟨rfl, (tapply_nil _ w17).mono ?_⟩
    rintro e w18 ⟨rfl, rfl⟩
    exact ⟨rfl, kk13.trans k17 (by simp)⟩
end Go.Proofs.YtaefmhfkjpnbiaaGreat
