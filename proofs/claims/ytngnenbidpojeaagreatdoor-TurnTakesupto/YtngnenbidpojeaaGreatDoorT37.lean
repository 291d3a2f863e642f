import Derived.OpenShut
import Derived.Deep.QuietTactic
import Derived.BigQuiet
import Derived.Test.YtngnenbidpojeaaGreatDoorT02
import Derived.Test.YtngnenbidpojeaaGreatDoorT04
import Derived.Test.YtngnenbidpojeaaGreatDoorT13
import Derived.Test.YtngnenbidpojeaaGreatDoorT17
import Derived.Test.YtngnenbidpojeaaGreatDoorT18
/-
 Encode of a journal.
-/
namespace Go.Proofs.YtngnenbidpojeaaGreatDoor
set_option maxRecDepth 100000
open Go.RowKit
set_option linter.unusedVariables false
section
variable {w0 w w' : World} {p q : Nat} {v : Value} {l : List UInt8}
theorem wq_int (h : Wq w0 w q v l) {z : Int} (hz : I64 z) (hb : l.length ≤ 1000000) : Calls Tryz.prog 110 #[.pointer (some ⟨q, 0, none⟩), Iv z] w fun e w' => e = .returned (.tuple #[]) ∧ ∃ v', Wq w0 w' q v' (l ++ enc (fold z)) ∧ Kept (foot q v) w w' := by
 refine (wint_any q v l z w h.1 hz.1 hz.2 (by omega)).mono ?_
 rintro e w' ⟨rfl, L⟩
 exact ⟨rfl, h.laid L⟩
end
theorem encI_length : ∀ (l : List Int), (encI l).length ≤ l.length * 9
 | [] => by simp [encI]
 | z :: l => by
  have h1 := encI_length l
  have h2 := enc_length (fold z)
  unfold encI at *
  simp only [List.flatMap_cons, List.length_append, List.length_cons]
  omega
theorem encV_length : ∀ (l : List Ev), (encV l).length ≤ l.length * 18
 | [] => by simp [encV]
 | e :: l => by
  have h1 := encV_length l
  have h2 := enc_length (fold e.v)
  have h3 := enc_length e.r
  unfold encV at *
  simp only [List.flatMap_cons, List.length_append, List.length_cons]
  omega
theorem encI_take {l : List Int} {j : Nat} {y : Int} (h : l[j]? = some y) : encI (l.take (j + 1)) = encI (l.take j) ++ enc (fold y) := by
 rw [List.take_add_one, h]
 simp [encI]
theorem encV_take {l : List Ev} {j : Nat} {y : Ev} (h : l[j]? = some y) : encV (l.take (j + 1)) = encV (l.take j) ++ (enc y.r ++ enc (fold y.v)) := by
 rw [List.take_add_one, h]
 simp [encV]
section
variable {w : World} {p : Nat} {j : Jn}
set_option maxHeartbeats 2000000 in
theorem encode21 (hJ : IsJ w p j) (hG : GoodJ j) : Calls Tryz.prog 65 #[.pointer (some ⟨p, 0, none⟩)] w fun e w' => NewB w (encJn j) e w' := by
 have HJ := Hid.mk hJ
 have HG := Hid.mk hG
 have hln := hJ.len
 have e1 := enc_length j.ver
 have e2 := enc_length j.ev.length
 have hb8 := hG.b8
 have hlI := encI_length j.base
 have ha : (List.map (fun n => Iv n) j.base) = BI j.base := rfl
 clear hJ hG ha
 go_enter Tryz.func65, Tryz.ntmps65
 go_wp2_with fail
 refine (newW _).mono ?_
 rintro e w2 ⟨q, rfl, hW2, k2, hq2⟩
 have W2 : Wq w w2 q (.slice none 0 0) [] := ⟨hW2, hq2, fresh_nil _ _, k2⟩
 have c2 := (HJ.out.kept0 k2).isP.ver
 have H3 := Hid.mk (wq_num W2 (n := j.ver) HG.out.v64 (by simp))
 clear W2 hW2 k2 hq2
 go_wp2_with fail
 refine H3.out.mono ?_
 rintro e w4 ⟨rfl, v4, W4, -⟩
 clear c2 H3
 rw [List.nil_append] at W4
 have h4 := (HJ.out.kept0 W4.2.2.2).isP
 have hld : (Instr.loadAt 84 (.pointer (some ⟨p, 0, none⟩))).run Tryz.prog w4 = .ok (.agg (BI j.base).toArray) w4 := run_loadAt_mid w4 p 0 84 _ _ h4.rangeA Tryz.underlying84 rfl (by rw [BI_length, hb8]; exact size29)
 have HW4 := Hid.mk W4
 clear W4 h4
 generalize hB : enc j.ver = B1 at *
 have HB1 := Hid.mk hB
 clear hB
 go_wp2_with (first | (refine wpList_load_run 84 (.tmp 19) rfl rfl _ rfl _ hld ?_))
 clear hld
 go_loopw [21] (fun i wr => ∃ k : Nat, i = .int .i64 (k : Int) ∧ k ≤ 8 ∧ Hid (∃ v, Wq w wr q v (B1 ++ encI (j.base.take k)))) (fun i _ => 8 - (intOf i).toNat)
 case atStart => exact ⟨0, rfl, by omega, Hid.mk ⟨v4, by simpa [encI] using HW4.out⟩⟩
 case round =>
  obtain ⟨k, rfl, hk, hH⟩ := hrel
  obtain ⟨v6, W6⟩ := hH.out
  have hlK := encI_length (j.base.take k)
  rw [List.length_take] at hlK
  by_cases hlt : k < 8
  ·have hkI : (k : Int) < 8 := by omega
   obtain ⟨y, hy⟩ : ∃ y, j.base[k]? = some y := ⟨_, List.getElem?_eq_getElem (by omega)⟩
   have hix : ∀ W : World, (Instr.index 84 (.agg (BI j.base).toArray) (.int .i64 (k : Int))).run Tryz.prog W = .ok (Iv y) W := fun W => index29 hb8 hy W
   have H8 := Hid.mk (wq_int W6 (z := y) (HG.out.b64 y (List.mem_of_getElem? hy)) (by rw [List.length_append]; omega))
   have HE := Hid.mk (encI_take hy)
   clear hH W6 hy
   go_wp2_with fail
   refine H8.out.mono ?_
   rintro e w8 ⟨rfl, v8, W8, -⟩
   have HW8 : Hid (∃ v, Wq w w8 q v (B1 ++ encI (j.base.take (k + 1)))) := ⟨v8, by rw [HE.out, ← List.append_assoc]; exact W8⟩
   clear H8 W8 hix
   go_wp2_with fail
   go_roundw
   case rel => exact ⟨k + 1, by go_num, by omega, HW8⟩
   case measure => simp [intOf]; omega
  ·obtain rfl : k = 8 := by omega
   have hJ6 := HJ.out.kept0 W6.2.2.2
   have c6 := hJ6.isP.count
   rw [List.take_of_length_le (by omega)] at W6 hlK
   have H8 := Hid.mk (wq_num W6 (n := j.ev.length) (by unfold U64; omega) (by rw [List.length_append]; omega))
   have g0 : IntKind.u64.wrap (j.ev.length : Int) = (j.ev.length : Int) := by rw [IntKind.wrap_u64]; omega
   have g1 : (0 : Int) ≤ (j.ev.length : Int) := by omega
   clear hH W6 hJ6
   generalize hn : j.ev.length = n at *
   have HN := Hid.mk hn
   clear hn
   go_wp2_with fail
   refine H8.out.mono ?_
   rintro e w8 ⟨rfl, v8, W8, -⟩
   have HC := Hid.mk (behind31 (HJ.out.kept0 W8.2.2.2))
   rw [HN.out] at HC
   have HW8 := Hid.mk W8
   clear H8 W8 c6
   go_wp2_with fail
   refine HC.out.mono ?_
   rintro e w9 ⟨rfl, k9⟩
   have HW9 := Hid.mk (HW8.out.kept0 k9)
   have hX1 : (B1 ++ encI j.base ++ enc n).length ≤ 90 := by rw [List.length_append, List.length_append]; omega
   generalize hX : B1 ++ encI j.base ++ enc n = X at *
   have HX := Hid.mk hX
   clear HC HW8 k9 hX
   go_wp2_with fail
   go_loopw [38] (fun i wr => ∃ k : Nat, i = .int .i64 (k : Int) ∧ k ≤ n ∧ Hid (∃ v, Wq w wr q v (X ++ encV (j.ev.take k)))) (fun i _ => n - (intOf i).toNat)
   case atStart => exact ⟨0, rfl, by omega, Hid.mk ⟨v8, by simpa [encV] using HW9.out⟩⟩
   case round =>
    obtain ⟨k, rfl, hk2, hH⟩ := hrel
    obtain ⟨v10, W10⟩ := hH.out
    have hlK2 := encV_length (j.ev.take k)
    rw [List.length_take] at hlK2
    by_cases hlt2 : k < n
    ·have hkI2 : (k : Int) < (n : Int) := by omega
     have hnI : (n : Int) ≤ 16 := by omega
     obtain ⟨y, hy⟩ : ∃ y, j.ev[k]? = some y := ⟨_, List.getElem?_eq_getElem (by have := HN.out; omega)⟩
     obtain ⟨d0, d1⟩ := (HJ.out.kept0 W10.2.2.2).at hy
     obtain ⟨y7, yv⟩ := HG.out.ev y (List.mem_of_getElem? hy)
     obtain ⟨W11, e11, k11, hz11, hb11⟩ := box1 wr (.cells #[Iv (y.r : Int), Iv y.v] 92)
     have H12 := Hid.mk (wq_num (W10.kept0 k11) (n := y.r) (by unfold U64; omega) (by rw [List.length_append]; omega))
     have HB11 : Hid (wr.heap.size ∉ foot q v10) := (W10.kept0 k11).notin hb11 (by decide)
     have HBX := Hid.mk hb11
     have HE := Hid.mk (encV_take hy)
     have t1 := enc_length y.r
     have hXl : (X ++ encV (j.ev.take k)).length ≤ 378 := by rw [List.length_append]; omega
     have g2 : IntKind.u64.wrap (y.r : Int) = (y.r : Int) := by rw [IntKind.wrap_u64]; omega
     have g3 : (0 : Int) ≤ (y.r : Int) := by omega
     have E11 := Hid.mk e11
     clear hH W10 hy k11 hz11 e11 hb11
     go_wp2_with fail
     rw [E11.out]
     refine H12.out.mono ?_
     rintro e w12 ⟨rfl, v12, W12, k12⟩
     have hb12 := k12.keeps HBX.out HB11.out
     obtain ⟨-, c12⟩ := cells2 hb12
     have H13 := Hid.mk (wq_int W12 yv (by rw [List.length_append]; omega))
     clear W12 k12 hb12 H12 HBX HB11 d0 d1
     go_wp2_with fail
     refine H13.out.mono ?_
     rintro e w13 ⟨rfl, v13, W13, -⟩
     have HW13 : Hid (∃ v, Wq w w13 q v (X ++ encV (j.ev.take (k + 1)))) := ⟨v13, by rw [HE.out]; simpa [List.append_assoc] using W13⟩
     clear W13 H13 c12
     go_wp2_with fail
     go_roundw
     case rel => exact ⟨k + 1, by go_num, by omega, HW13⟩
     case measure => simp [intOf]; omega
    ·obtain rfl : k = n := by omega
     have HBt := Hid.mk (wbytes_any q v10 _ wr W10.1 (by rw [List.length_append]; omega))
     have HKr := Hid.mk W10.2.2.2
     clear W10 hH
     go_wp2_with fail
     refine HBt.out.mono ?_
     rintro e w13 ⟨v13, rfl, hO13, k13, hf13⟩
     go_wp2_with fail
     go_ret
     refine ⟨v13, rfl, ?_, HKr.out.trans k13 (by simp), fun g hg => ?_⟩
     ·rw [List.take_of_length_le (by have := HN.out; omega), ← HX.out, ← HB1.out] at hO13
      unfold encJn
      rw [HN.out]
      simpa [List.append_assoc] using hO13
     ·have := hf13 g hg
      have := HKr.out.size
      omega
end
theorem sound_keeps (a : Ac) : soundA a.tries a.inb.length a.poi = (keepsA a && a.poi.all fun x => x.formed) := by
 rw [Bool.eq_iff_iff, Bool.and_eq_true, soundA_iff, keepsA_iff, List.all_eq_true]
 constructor
 ·rintro ⟨h1, h2, h3, h4, h5⟩
  refine ⟨⟨h1, by omega, ?_, h4⟩, h5⟩
  rcases Nat.eq_zero_or_pos a.inb.length with h | h
  ·exact .inl (h3 h)
  ·exact .inr h
 ·rintro ⟨⟨h1, h2, h3, h4⟩, h5⟩
  refine ⟨h1, by omega, fun h => ?_, h4, h5⟩
  rcases h3 with h3 | h3
  ·exact h3
  ·omega
theorem allF_map (l : List Lq) : allF l = (l.map (·.x)).all fun x => x.formed := by simp [allF, List.all_map, Function.comp_def]
theorem packB_map {l : List Lq} (h : allF l = true) : packB l = packL (l.map (·.x)) := by
 rw [packB, if_pos h, packL, List.length_map]
 congr 1
 simp [encA, encT, List.flatMap_map]
def encAB (a : Ac) : List UInt8 := if soundA a.tries a.inb.length a.poi = true then encAc a else []
def encAE (a : Ac) : Int := if soundA a.tries a.inb.length a.poi = true then 0 else 1
structure WP (w0 w : World) (q : Nat) (v : Value) (l : List UInt8) (B : Nat) (vs : Array Value) (ps : List (Value × List UInt8)) : Prop where
 isW : IsW 205 5 w q v l
 hq : w0.heap.size ≤ q
 fr : Fresh w0 v
 k : Kept [] w0 w
 row : w.heap[B]? = some (.cells vs 73 (0, 0))
 parts : ∀ x ∈ ps, Owns 5 w x.1 x.2 ∧ ∀ g, x.1.ownBlock = some g → g ≠ q ∧ v.ownBlock ≠ some g
section
variable {w0 w w' : World} {q B : Nat} {v : Value} {l : List UInt8} {vs : Array Value} {ps : List (Value × List UInt8)}
theorem wp_text (h : WP w0 w q v l B vs ps) (s : List UInt8) (hs : s.length ≤ 1000000) (hb : l.length ≤ 1000000) : Calls Tryz.prog 68 #[Ptr q, Sv s] w fun e w' => e = .returned (.tuple #[]) ∧ ∃ v', WP w0 w' q v' (l ++ encTx s) B vs ps := by
 have hz : (⟨s.toArray⟩ : ByteArray).size = s.length := by simp [ByteArray.size]
 refine (wtext_any q v l ⟨s.toArray⟩ w h.isW (by rw [hz]; omega)).mono ?_
 rintro e w' ⟨rfl, L⟩
 rw [hz] at L
 have e : l ++ enc s.length ++ s = l ++ encTx s := by unfold encTx; rw [List.append_assoc]
 have L : Laid 205 5 w q v (l ++ enc s.length ++ s) w' := L
 rw [e] at L
 obtain ⟨v', i1, i2, i3⟩ := L
 refine ⟨rfl, v', i1, h.hq, fun g hg => ?_, h.k.trans i2 (fun x hx => ?_), i2.keeps h.row (fun hm => ?_), fun x hx => ?_⟩
 ·rcases i3 g hg with h' | h'
  ·exact h.fr g h'
  ·have := h.k.size; omega
 ·rcases mem_foot.1 hx with rfl | h'
  ·exact .inr h.hq
  ·exact .inr (h.fr x h')
 ·rcases mem_foot.1 hm with e | e
  ·exact box_ne h.row h.isW.box (by decide) e
  ·exact owns_ne h.isW.own h.row (by decide) e
 ·obtain ⟨h1, h2⟩ := h.parts x hx
  refine ⟨h1.kept i2 (fun g hg hm => ?_), fun g hg => ⟨(h2 g hg).1, fun hv => ?_⟩⟩
  ·rcases mem_foot.1 hm with e | e
   ·exact (h2 g hg).1 e
   ·exact (h2 g hg).2 e
  ·rcases i3 g hv with h' | h'
   ·exact (h2 g hg).2 h'
   ·have := h1.lt hg; omega
end
def encTs (l : List (List UInt8)) : List UInt8 := l.flatMap encTx
theorem encTs_take {L : List (List UInt8)} {j : Nat} {y : List UInt8} (h : L[j]? = some y) : encTs (L.take (j + 1)) = encTs (L.take j) ++ encTx y := by
 rw [List.take_add_one, h]
 simp [encTs]
theorem encTs_len {L : List (List UInt8)} (h : ∀ y ∈ L, y.length ≤ 20000) : (encTs L).length ≤ 20009 * L.length := by
 induction L with
 | nil => simp [encTs]
 | cons y L ih =>
  have h1 := ih fun z hz => h z (by simp [hz])
  have h2 := h y (by simp)
  have h3 := enc_length y.length
  have e : encTs (y :: L) = encTx y ++ encTs L := rfl
  rw [e, List.length_append, encTx, List.length_append, List.length_cons]
  omega
section
variable {w w' : World} {p : Nat} {a : Ac}
set_option maxHeartbeats 8000000 in
theorem encode8 (h : IsAct w p a) : Calls Tryz.prog 20 #[Ptr p] w fun e w' => TwoB w (encAB a) (encAE a) e w' := by
 have HK20 := Hid.mk (keeps20 h)
 obtain ⟨pj, pi, po, av, cv, qs, ys, ms, h⟩ := h
 have HA := Hid.mk h
 have hsk := sound_keeps a
 have hno : Hid (soundA a.tries a.inb.length a.poi = false → encAB a = [] ∧ encAE a = 1) := Hid.mk fun h => by unfold encAB encAE; rw [h]; exact ⟨rfl, rfl⟩
 have hyes : Hid (soundA a.tries a.inb.length a.poi = true → encAB a = encAc a ∧ encAE a = 0) := Hid.mk fun h => by unfold encAB encAE; rw [h]; exact ⟨rfl, rfl⟩
 generalize encAB a = RB at *
 generalize encAE a = RE at *
 have HSK := Hid.mk hsk
 clear h hsk
 go_enter Tryz.func20, Tryz.ntmps20
 go_wp2_with fail
 refine HK20.out.mono ?_
 rintro e w1 ⟨rfl, k1⟩
 have HK1 := Hid.mk k1
 clear k1
 cases hk : keepsA a with
 | false =>
  obtain ⟨e1, e2⟩ := hno.out (by rw [HSK.out, hk]; rfl)
  subst e1 e2
  clear hno hyes HSK
  go_wp2_with fail
  go_ret2
  exact ⟨_, rfl, Owns.nil 5 w1, HK1.out, fresh_nil w 0⟩
 | true =>
  have h1 := HA.out.kept0 HK1.out
  obtain ⟨d0, d1, d2, d3, d4⟩ := h1.cells
  obtain ⟨t0, t3, tn, p8⟩ := (keepsA_iff a).1 hk
  have HP := Hid.mk (pack20 h1.row h1.vals (fun q hq => h1.g.poi q.x (by rw [← h1.pm]; exact List.mem_map.2 ⟨q, hq, rfl⟩)) (by omega))
  clear h1 HK20
  go_wp2_with fail
  refine HP.out.mono ?_
  rintro e w2 ⟨v2, rfl, hO2, k2, hf2⟩
  obtain ⟨a2, c2, rfl⟩ := hO2.form
  cases hF : allF ms with
  | false =>
   have hs : soundA a.tries a.inb.length a.poi = false := by rw [HSK.out, hk, Bool.true_and, ← HA.out.pm, ← allF_map]; exact hF
   obtain ⟨e1, e2⟩ := hno.out hs
   subst e1 e2
   have hE : packE ms = 1 := by unfold packE; rw [hF]; rfl
   rw [hE]
   have HK2 := Hid.mk (HK1.out.trans k2 (by simp))
   clear hno hyes HSK k2 hO2 hf2 HP hs
   go_wp2_with fail
   go_ret2
   exact ⟨_, rfl, Owns.nil 5 w2, HK2.out, fresh_nil w 0⟩
  | true =>
   have hs : soundA a.tries a.inb.length a.poi = true := by rw [HSK.out, hk, Bool.true_and, ← HA.out.pm, ← allF_map]; exact hF
   obtain ⟨e1, e2⟩ := hyes.out hs
   subst e1 e2
   have hE : packE ms = 0 := by unfold packE; rw [hF]; rfl
   rw [hE]
   have hO2' : Owns 5 w2 (.slice a2 (packB ms).length c2) (packL a.poi) := by
    have e := packB_map hF
    rw [HA.out.pm] at e
    rw [← e]
    exact hO2
   obtain ⟨n2, hn2⟩ : ∃ n, (packB ms).length = n := ⟨_, rfl⟩
   rw [hn2] at hO2' ⊢
   have HK2 := Hid.mk (HK1.out.trans k2 (by simp))
   have HV2 : Hid (Owns 5 w2 (.slice a2 n2 c2) (packL a.poi)) := Hid.mk hO2'
   have hfo : Hid (∀ x ∈ a.poi, x.formed = true) := Hid.mk (((soundA_iff _ _ _).1 hs).2.2.2.2)
   have HS := Hid.mk hs
   clear hno hyes HSK k2 hO2 hO2' hn2 hf2 HP hs d0 d1 d2 d3 d4
   go_wp2_with fail
   refine (newW w2).mono ?_
   rintro e w3 ⟨q, rfl, hW3, k3, hq3⟩
   have h3 := HA.out.kept0 (HK2.out.trans k3 (by simp))
   obtain ⟨d0, d1, d2, d3, d4⟩ := h3.cells
   obtain ⟨tn', htn⟩ : ∃ n : Nat, a.tries = (n : Int) := ⟨a.tries.toNat, by omega⟩
   rw [htn] at d3
   have H32 := Hid.mk (wnum_any q (.slice none 0 0) [] tn' w3 hW3 (by omega) (by simp))
   have HK3 := Hid.mk k3
   have HQ3 := Hid.mk hq3
   clear hW3 k3 hq3 h3
   go_wp2_with fail
   refine H32.out.mono ?_
   rintro e w4 ⟨rfl, v4, i1, i2, i3⟩
   rw [List.nil_append] at i1
   have k24 : Kept [] w2 w4 := HK3.out.trans i2 (fun x hx => by
    rcases mem_foot.1 hx with e | e
    ·subst e; exact .inr HQ3.out
    ·simp [Value.ownBlock] at e)
   have HKd := Hid.mk ((HK2.out.trans k24 (by simp)).drew)
   have HWP : Hid (IsW 205 5 w4.drew q v4 (enc tn') ∧ w.heap.size ≤ q ∧ Fresh w v4 ∧ Owns 5 w4.drew (.slice a2 n2 c2) (packL a.poi) ∧ ∀ g, (Value.slice a2 n2 c2).ownBlock = some g → g ≠ q ∧ v4.ownBlock ≠ some g) := Hid.mk (by
    have kd : Kept [] w4 w4.drew := (Kept.refl [] w4).drew
    refine ⟨i1.kept kd (by simp) (by simp), by have := HK2.out.size; have := HQ3.out; omega, fun g hg => ?_, (HV2.out.kept k24 (by simp)).kept kd (by simp), fun g hg => ?_⟩
    ·rcases i3 g hg with h' | h'
     ·simp [Value.ownBlock] at h'
     ·have := HK2.out.size; have := HK3.out.size; omega
    ·have h9 := HV2.out.lt hg
     refine ⟨by have := HQ3.out; omega, fun hv => ?_⟩
     rcases i3 g hv with h' | h'
     ·simp [Value.ownBlock] at h'
     ·have := HK3.out.size; omega)
   have hd := HA.out.kept0 HKd.out
   have HS5 : Hid (∀ W, Kept [] w4.drew W → W.cell? ⟨p, 0, none⟩ = some (Ptr pj) ∧ W.cell? ⟨p, 1, none⟩ = some (Ptr pi) ∧ W.cell? ⟨p, 2, none⟩ = some (Ptr po)) := Hid.mk fun W kW => by
    obtain ⟨x0, x1, x2, -, -⟩ := (hd.kept0 kW).cells
    exact ⟨x0, x1, x2⟩
   have S0 := HS5.out _ (Kept.refl [] _)
   have HC33 := Hid.mk (encode21 hd.j hd.g.j)
   have HC34 : Hid (∀ W, Kept [] w4.drew W → Calls Tryz.prog 66 #[Ptr pi] W fun e w' => ∃ v, e = .returned v ∧ Owns 5 w' v (packB qs) ∧ Kept [] W w' ∧ Fresh W v) := Hid.mk fun W kW => encode18 (hd.i.kept0 kW)
   have HC35 : Hid (∀ W, Kept [] w4.drew W → Calls Tryz.prog 67 #[Ptr po] W fun e w' => NewB W (encO a.out) e w') := Hid.mk fun W kW => by
    have := encode14 (hd.o.kept0 kW) (by rw [hd.oy]; exact hd.g.out)
    rw [hd.oy] at this
    exact this
   clear i1 i2 i3 k24 hd d0 d1 d2 d3 d4 H32 HV2 HK3 HQ3 HK2
   go_wp2_with fail
   go_region_held3 (fun V => V.cell? ⟨p, 0, none⟩ = some (Ptr pj) ∧ V.cell? ⟨p, 1, none⟩ = some (Ptr pi) ∧ V.cell? ⟨p, 2, none⟩ = some (Ptr po)) (first | with_reducible exact S0 | with_reducible exact HS5.out _ HK7.out | with_reducible exact HS5.out _ HK6.out | with_reducible exact HS5.out _ HK5.out | exact HS5.out _ (HK7.out.alloc _)) (first
    | (go_at_call 67; refine (HC35.out _ HK6.out).mono ?_; rintro e w7 ⟨v7, rfl, hO7, k7, hf7⟩; obtain ⟨a7, c7, rfl⟩ := hO7.form; have HV7 := Hid.mk (And.intro hO7 hf7); have HK67 := Hid.mk k7; have HK7 := Hid.mk (HK6.out.trans k7 (by simp)); clear hO7 hf7 k7)
    | (go_at_call 66; refine (HC34.out _ HK5.out).mono ?_; rintro e w6 ⟨v6, rfl, hO6, k6, hf6⟩; obtain ⟨a6, c6, rfl⟩ := hO6.form; have HV6 := Hid.mk (And.intro hO6 hf6); have HK56 := Hid.mk k6; have HK6 := Hid.mk (HK5.out.trans k6 (by simp)); clear hO6 hf6 k6)
    | (go_at_call 65; refine HC33.out.mono ?_; rintro e w5 ⟨v5, rfl, hO5, k5, hf5⟩; obtain ⟨a5, c5, rfl⟩ := hO5.form; have HV5 := Hid.mk (And.intro hO5 hf5); have HK5 := Hid.mk k5; clear hO5 hf5 k5))
   obtain ⟨w8, e8, k8, z8, b8⟩ := box1 w7 (.cells #[.slice a5 (encJn a.j).length c5, .slice a6 (packB qs).length c6, .slice a7 (encO a.out).length c7, .slice a2 n2 c2] 73)
   rw [e8]
   have hqF : allF qs = true := by
    unfold allF
    rw [List.all_eq_true]
    exact fun q hq => (HA.out.i.good q hq).2
   have hqB : packB qs = packL a.inb := by rw [packB_map hqF, HA.out.iq]
   have HL0 : Hid (∀ j, j < 4 → ∃ s part aa nn cc, s = Value.slice aa nn cc ∧ [(Value.slice a5 (encJn a.j).length c5, encJn a.j), (Value.slice a6 (packB qs).length c6, packL a.inb), (Value.slice a7 (encO a.out).length c7, encO a.out), (Value.slice a2 n2 c2, packL a.poi)][j]? = some (s, part) ∧ #[Value.slice a5 (encJn a.j).length c5, Value.slice a6 (packB qs).length c6, Value.slice a7 (encO a.out).length c7, Value.slice a2 n2 c2][j]? = some s ∧ [encJn a.j, packL a.inb, encO a.out, packL a.poi][j]? = some part ∧ part.length ≤ 20000) := Hid.mk fun j hj => by
    have g := HA.out.g
    have l1 := encJn_length g.j
    have l2 := packL_length a.inb fun x hx => (g.inb x hx).2
    have l3 := encO_length g.out
    have l4 := packL_length a.poi hfo.out
    have i8 := g.i8
    match j, hj with
    | 0, _ => exact ⟨_, _, _, _, _, rfl, rfl, rfl, rfl, by omega⟩
    | 1, _ => exact ⟨_, _, _, _, _, rfl, rfl, rfl, rfl, by omega⟩
    | 2, _ => exact ⟨_, _, _, _, _, rfl, rfl, rfl, rfl, by omega⟩
    | 3, _ => exact ⟨_, _, _, _, _, rfl, rfl, rfl, rfl, by omega⟩
   have HW8 : Hid (WP w w8 q v4 (enc tn') w7.heap.size #[.slice a5 (encJn a.j).length c5, .slice a6 (packB qs).length c6, .slice a7 (encO a.out).length c7, .slice a2 n2 c2] [(Value.slice a5 (encJn a.j).length c5, encJn a.j), (Value.slice a6 (packB qs).length c6, packL a.inb), (Value.slice a7 (encO a.out).length c7, encO a.out), (Value.slice a2 n2 c2, packL a.poi)]) := Hid.mk (by
    obtain ⟨i1, i2, i3, i4, i5⟩ := HWP.out
    have k78 := HK7.out.trans k8 (by simp)
    have hv4 : ∀ g, v4.ownBlock = some g → g < w4.drew.heap.size := fun g hg => i1.own.lt hg
    have hq4 : q < w4.drew.heap.size := i1.lt
    have s5 := HK5.out.size
    have s6 := HK6.out.size
    refine ⟨i1.kept k78 (by simp) (by simp), i2, i3, HKd.out.trans k78 (by simp), b8, fun x hx => ?_⟩
    simp only [List.mem_cons, List.not_mem_nil, or_false] at hx
    rcases hx with rfl | rfl | rfl | rfl
    ·refine ⟨((HV5.out.1.kept HK56.out (by simp)).kept HK67.out (by simp)).kept k8 (by simp), fun g hg => ?_⟩
     have h9 := HV5.out.2 g hg
     exact ⟨by omega, fun h => by have := hv4 g h; omega⟩
    ·refine ⟨by have := (HV6.out.1.kept HK67.out (by simp)).kept k8 (by simp); rw [hqB] at this ⊢; exact this, fun g hg => ?_⟩
     have h9 := HV6.out.2 g hg
     exact ⟨by omega, fun h => by have := hv4 g h; omega⟩
    ·refine ⟨HV7.out.1.kept k8 (by simp), fun g hg => ?_⟩
     have h9 := HV7.out.2 g hg
     exact ⟨by omega, fun h => by have := hv4 g h; omega⟩
    ·exact ⟨i4.kept k78 (by simp), i5⟩)
   have hbody : Hid (enc tn' ++ encTs [encJn a.j, packL a.inb, encO a.out, packL a.poi] = encAc a ∧ ∀ y ∈ [encJn a.j, packL a.inb, encO a.out, packL a.poi], y.length ≤ 20000) := Hid.mk (by
    refine ⟨?_, fun y hy => ?_⟩
    ·unfold encAc encTs
     rw [htn, Int.toNat_natCast]
     simp
    ·obtain ⟨j, hj⟩ := List.getElem?_of_mem hy
     have hj4 : j < 4 := (List.getElem?_eq_some_iff.1 hj).1
     obtain ⟨s, part, aa, nn, cc, -, -, -, h4, h5⟩ := HL0.out j hj4
     rw [hj] at h4
     injection h4 with h4
     rw [h4]
     exact h5)
   generalize [(Value.slice a5 (encJn a.j).length c5, encJn a.j), (Value.slice a6 (packB qs).length c6, packL a.inb), (Value.slice a7 (encO a.out).length c7, encO a.out), (Value.slice a2 n2 c2, packL a.poi)] = PS at HL0 HW8
   generalize #[Value.slice a5 (encJn a.j).length c5, Value.slice a6 (packB qs).length c6, Value.slice a7 (encO a.out).length c7, Value.slice a2 n2 c2] = VS at HL0 HW8
   have hL4 : Hid ([encJn a.j, packL a.inb, encO a.out, packL a.poi].length = 4) := Hid.mk rfl
   generalize [encJn a.j, packL a.inb, encO a.out, packL a.poi] = L at HL0 hbody hL4
   generalize w7.heap.size = B at *
   clear e8 k8 b8 z8 hqF hqB HWP HK5 HK6 HK7 HK56 HK67 HV5 HV6 HV7 HC33 HC34 HC35 HS5 S0 HKd HK1 HS HA hfo htn
   go_wp2_with fail
   go_loopw [49] (fun i wr => ∃ j : Nat, i = .int .i64 (j : Int) ∧ j ≤ 4 ∧ Hid (∃ v, WP w wr q v (enc tn' ++ encTs (L.take j)) B VS PS)) (fun i _ => 4 - (intOf i).toNat)
   case atStart => exact ⟨0, rfl, by omega, Hid.mk ⟨v4, by simpa [encTs] using HW8.out⟩⟩
   case round =>
    obtain ⟨j, rfl, hj, H⟩ := hrel
    clear HW8
    obtain ⟨v, W⟩ := H.out
    have hln := enc_length tn'
    have hlT := encTs_len (L := L.take j) (fun y hy => hbody.out.2 y (List.mem_of_mem_take hy))
    have hlt4 : (L.take j).length ≤ 4 := by rw [List.length_take, hL4.out]; omega
    by_cases hlt : j < 4
    ·obtain ⟨s, part, aa, nn, cc, rfl, p1, p2, p3, p4⟩ := HL0.out j hlt
     have c0 : wr.cell? ⟨B, j, none⟩ = some (.slice aa nn cc) := by
      unfold World.cell?
      rw [W.row]
      simpa using p2
     have hst := string_of 73 5 Tryz.underlying73 9 Tryz.underlying5 Tryz.underlying9 _ _ _ (W.parts _ (List.mem_of_getElem? p1)).1.reads
     have HT := Hid.mk (wp_text W part (by omega) (by rw [List.length_append]; omega))
     have hjI : (j : Int) < 4 := by omega
     have hj0 : (0 : Int) ≤ (j : Int) := by omega
     have HE := Hid.mk (encTs_take p3)
     clear H W p1 p2 p3
     go_wp2_with fail
     refine HT.out.mono ?_
     rintro e w9 ⟨rfl, v9, W9⟩
     have H9 : Hid (∃ v, WP w w9 q v (enc tn' ++ encTs (L.take (j + 1))) B VS PS) := Hid.mk ⟨v9, by rw [HE.out, ← List.append_assoc]; exact W9⟩
     clear W9 HT c0 hst HE
     go_wp2_with fail
     go_roundw
     case rel => exact ⟨j + 1, by go_num, by omega, H9⟩
     case measure => simp [intOf]; omega
    ·obtain rfl : j = 4 := by omega
     have HB := Hid.mk (wbytes_any q v _ wr W.isW (by rw [List.length_append]; omega))
     have HKr := Hid.mk W.k
     clear H W
     go_wp2_with fail
     refine HB.out.mono ?_
     rintro e w9 ⟨v9, rfl, hO9, k9, hf9⟩
     go_wp2_with fail
     go_ret2
     refine ⟨v9, rfl, ?_, HKr.out.trans k9 (by simp), fun g hg => ?_⟩
     ·rw [List.take_of_length_le (by rw [hL4.out]; exact Nat.le_refl _), hbody.out.1] at hO9
      exact hO9
     ·have := hf9 g hg
      have := HKr.out.size
      omega
end
end Go.Proofs.YtngnenbidpojeaaGreatDoor
