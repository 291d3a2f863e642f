import Derived.Test.YtngnenbidpojeaaGreatDoorRows
import Derived.Test.YtngnenbidpojeaaGreatDoorProg
import Derived.WalkKit
import Derived.Deep.AppendLies
import Derived.Lib.AppendStr
import Derived.Laws.IdiomStrings
import Derived.OneCell
import Derived.KernelRfl
import Derived.WalkLawsBesides
import Derived.WalkSpells
import Derived.Laws.AppendOwnNone
import Derived.Deep.Slices
import Derived.IntWalk
import Derived.Deep.RegionHeld3
import Derived.Laws.Rows
import Derived.Laws.CopyRow
import Derived.WalkSmall
import Derived.Lib.LaidTab
import Derived.Stop.LaidErr
import Derived.Test.YtngnenbidpojeaaGreatDoorV01
import Derived.Test.YtngnenbidpojeaaGreatDoorV02
import Derived.Test.YtngnenbidpojeaaGreatDoorV03
import Derived.Test.YtngnenbidpojeaaGreatDoorV04
import Derived.Test.YtngnenbidpojeaaGreatDoorV09
import Derived.Test.YtngnenbidpojeaaGreatDoorV14
import Derived.Test.YtngnenbidpojeaaGreatDoorV16
import Derived.Test.YtngnenbidpojeaaGreatDoorV19
import Derived.Test.YtngnenbidpojeaaGreatDoorV21
import Derived.Test.YtngnenbidpojeaaGreatDoorV22
/-
  Encode of an outbox, and the document's.
-/
namespace Go.Proofs.YtngnenbidpojeaaGreatDoor
set_option maxRecDepth 100000
open Go.RowKit
set_option linter.unusedVariables false
/-- A Writer at q with the row v, made since w0. -/
def Wq (w0 w : World) (q : Nat) (v : Value) (l : List UInt8) : Prop := IsW 205 5 w q v l ∧ w0.heap.size ≤ q ∧ Fresh w0 v ∧ Kept [] w0 w
/-- Bytes of one's own. -/
def NewB (w : World) (l : List UInt8) (e : Ending) (w' : World) : Prop := ∃ v, e = .returned v ∧ Owns 5 w' v l ∧ Kept [] w w' ∧ Fresh w v
section
variable {w0 w w' : World} {p q : Nat} {v : Value} {l : List UInt8}
theorem Wq.kept0 (h : Wq w0 w q v l) (k : Kept [] w w') : Wq w0 w' q v l := ⟨h.1.kept k (by simp) (by simp), h.2.1, h.2.2.1, h.2.2.2.trans k (by simp)⟩
theorem owns_ne {e : TypeId} (h : Owns e w v l) {g : Nat} {cs : Array Value} {t : TypeId} {fz : Nat × Nat} (hg : w.heap[g]? = some (.cells cs t fz)) (ht : t ≠ e) : v.ownBlock ≠ some g := fun hv => by
  rcases h.2 with ⟨rfl, _⟩ | ⟨g1, cap, cur, rfl, _, hb, _⟩
  · simp [Value.ownBlock] at hv
  · simp [Value.ownBlock] at hv
    subst hv
    rw [hg] at hb
    injection hb with hb
    injection hb with _ e
    exact ht e
theorem Wq.notin (h : Wq w0 w q v l) {g : Nat} {cs : Array Value} {t : TypeId} (hg : w.heap[g]? = some (.cells cs t (0, 0))) (ht : t ≠ 205 ∧ t ≠ 5) : g ∉ foot q v := fun hm => by
  rcases mem_foot.1 hm with e | e
  · exact box_ne hg h.1.box ht.1 e
  · exact owns_ne h.1.own hg ht.2 e
theorem Wq.laid (h : Wq w0 w q v l) {l' : List UInt8} (L : Laid 205 5 w q v l' w') : ∃ v', Wq w0 w' q v' l' ∧ Kept (foot q v) w w' := by
  obtain ⟨v', i1, i2, i3⟩ := L
  refine ⟨v', ⟨i1, h.2.1, fun g hg => ?_, h.2.2.2.trans i2 (fun x hx => ?_)⟩, i2⟩
  · rcases i3 g hg with h' | h'
    · exact h.2.2.1 g h'
    · have := h.2.2.2.size; omega
  · rcases mem_foot.1 hx with rfl | h'
    · exact .inr h.2.1
    · exact .inr (h.2.2.1 x h')
theorem wq_num (h : Wq w0 w q v l) {n : Nat} (hn : U64 n) (hb : l.length ≤ 1000000) : Calls Tryz.prog 64 #[.pointer (some ⟨q, 0, none⟩), Uv n] w fun e w' => e = .returned (.tuple #[]) ∧ ∃ v', Wq w0 w' q v' (l ++ enc n) ∧ Kept (foot q v) w w' := by
  refine (wnum_any q v l n w h.1 hn (by omega)).mono ?_
  rintro e w' ⟨rfl, L⟩
  exact ⟨rfl, h.laid L⟩
theorem wq_text (h : Wq w0 w q v l) (s : List UInt8) (hs : s.length ≤ 1000000) (hb : l.length ≤ 1000000) : Calls Tryz.prog 68 #[.pointer (some ⟨q, 0, none⟩), Sv s] w fun e w' => e = .returned (.tuple #[]) ∧ ∃ v', Wq w0 w' q v' (l ++ encTx s) ∧ Kept (foot q v) w w' := by
  have hz : (⟨s.toArray⟩ : ByteArray).size = s.length := by simp [ByteArray.size]
  refine (wtext_any q v l ⟨s.toArray⟩ w h.1 (by rw [hz]; omega)).mono ?_
  rintro e w' ⟨rfl, L⟩
  rw [hz] at L
  have e : l ++ enc s.length ++ s = l ++ encTx s := by unfold encTx; rw [List.append_assoc]
  have L : Laid 205 5 w q v (l ++ enc s.length ++ s) w' := L
  rw [e] at L
  exact ⟨rfl, h.laid L⟩
end
section
variable {w0 w w' : World} {p pf : Nat} {own : List UInt8} {K : List La} {qs ms : List Yq}
theorem encK_take {K : List La} {j : Nat} {y : La} (h : K[j]? = some y) : encK (K.take (j + 1)) = encK (K.take j) ++ (encTx y.k ++ enc y.s) := by
  rw [List.take_add_one, h]
  simp [encK]
theorem encY_take {L : List Ot} {j : Nat} {y : Ot} (h : L[j]? = some y) : encY (L.take (j + 1)) = encY (L.take j) ++ (encTx y.to ++ encTx (encL y.x)) := by
  rw [List.take_add_one, h]
  simp [encY]
theorem GoodO.to40 {o : Ob} (g : GoodO o) {y : Ot} (hy : y ∈ o.L) : y.x.formed = true ∧ y.to.length ≤ 40 := by
  obtain ⟨h1, h2, h3, h4⟩ := g.lets _ hy
  obtain ⟨z, hz, e⟩ := (has_mem g.rise).1 h4
  have hk := (isKey_iff _).1 (g.key z hz).1
  rw [e] at hk
  exact ⟨h2, hk.2⟩
theorem encTx_length (s : List UInt8) : (encTx s).length ≤ s.length + 9 := by
  have := enc_length s.length
  unfold encTx
  rw [List.length_append]
  omega
set_option maxHeartbeats 2000000 in
theorem encode14 (hO : IsO w p own K qs) (hg : GoodO ⟨own, K, qs.map ot⟩) : Calls Tryz.prog 67 #[.pointer (some ⟨p, 0, none⟩)] w fun e w' => NewB w (encO ⟨own, K, qs.map ot⟩) e w' := by
  have HO := Hid.mk hO
  have HG := Hid.mk hg
  have hown := (isKey_iff _).1 hg.own
  dsimp only at hown
  have hne : (!own.isEmpty) = true := by have := hg.ne.1; dsimp only at this; cases h : own with | nil => exact absurd h this | cons _ _ => rfl
  have H34 := Hid.mk (owned34 hO)
  rw [hne] at H34
  have hkn := hO.kn
  have hln := hO.ln
  have g0 : (0 : Int) ≤ (K.length : Int) := by omega
  have g1 : (K.length : Int) ≤ 64 := by omega
  have f0 : (0 : Int) ≤ (qs.length : Int) := by omega
  have f1 : (qs.length : Int) ≤ 32 := by omega
  have e0 := encTx_length own
  have e1 := enc_length K.length
  have e2 := enc_length qs.length
  clear hO hg hne
  generalize hn : K.length = n at *
  generalize hm : qs.length = m at *
  have HN := Hid.mk hn
  have HM := Hid.mk hm
  clear hn hm
  go_enter Tryz.func67, Tryz.ntmps67
  go_wp2_with fail
  refine H34.out.mono ?_
  rintro e w1 ⟨rfl, rfl⟩
  go_wp2_with fail
  refine (newW _).mono ?_
  rintro e w2 ⟨q, rfl, hW2, k2, hq2⟩
  have W2 : Wq w w2 q (.slice none 0 0) [] := ⟨hW2, hq2, fresh_nil _ _, k2⟩
  have c2 := (HO.out.kept0 k2).owner
  have H3 := Hid.mk (wq_text W2 own (by omega) (by simp))
  clear W2 hW2 k2 hq2
  go_wp2_with fail
  refine H3.out.mono ?_
  rintro e w3 ⟨rfl, v3, W3, -⟩
  clear c2 H3
  rw [List.nil_append] at W3
  have c3 := (HO.out.kept0 W3.2.2.2).known
  rw [HN.out] at c3
  have H4 := Hid.mk (wq_num W3 (n := n) (by unfold U64; omega) (by omega))
  clear W3
  go_wp2_with fail
  refine H4.out.mono ?_
  rintro e w4 ⟨rfl, v4, W4, -⟩
  clear c3 H4
  have c4 := (HO.out.kept0 W4.2.2.2).known
  rw [HN.out] at c4
  have HW4 := Hid.mk W4
  clear W4
  go_wp2_with fail
  go_quiet (fail)
  have HW5 := Hid.mk (HW4.out.kept0 ((Kept.refl [] w4).drewN nq))
  generalize w4.drewN nq = w5 at HW5 ⊢
  clear HW4 c4
  have hB1 : (encTx own ++ enc n).length ≤ 58 := by rw [List.length_append]; omega
  generalize hB : encTx own ++ enc n = B1 at *
  have HB1 := Hid.mk hB
  clear hB e0 e1
  go_wp2_with fail
  go_loopw [36] (fun i wr => ∃ j : Nat, i = .int .i64 (j : Int) ∧ j ≤ n ∧ Hid (∃ v, Wq w wr q v (B1 ++ encK (K.take j)))) (fun i _ => n - (intOf i).toNat)
  case atStart => exact ⟨0, rfl, by omega, Hid.mk ⟨v4, by simpa [encK] using HW5.out⟩⟩
  case round =>
    obtain ⟨j, rfl, hj, hH⟩ := hrel
    obtain ⟨v6, W6⟩ := hH.out
    have hOr := HO.out.kept0 W6.2.2.2
    have hlK := encK_length (K := K.take j) (fun y hy => (HG.out.key y (List.mem_of_mem_take hy)).1)
    rw [List.length_take] at hlK
    by_cases hlt : j < n
    · have hjI : (j : Int) < (n : Int) := by omega
      have hj0 : (0 : Int) ≤ (j : Int) := by omega
      obtain ⟨y, hy⟩ : ∃ y, K[j]? = some y := ⟨_, List.getElem?_eq_getElem (by have := HN.out; omega)⟩
      obtain ⟨d0, d1⟩ := hOr.key hy
      have hyk := HG.out.key y (List.mem_of_getElem? hy)
      have hkl := (isKey_iff _).1 hyk.1
      obtain ⟨W7, e7, k7, hz7, hb7⟩ := box1 wr (.cells #[Sv y.k, Uv y.s] 164)
      have H8 := Hid.mk (wq_text (W6.kept0 k7) y.k (by omega) (by rw [List.length_append]; omega))
      have HB7 : Hid (wr.heap.size ∉ foot q v6) := (W6.kept0 k7).notin hb7 (by decide)
      have HK := Hid.mk hyk
      have HE := Hid.mk (encK_take hy)
      have E7 := Hid.mk e7
      clear hH W6 hOr hy hyk k7 hz7 e7
      go_wp2_with fail
      rw [E7.out]
      refine H8.out.mono ?_
      rintro e w8 ⟨rfl, v8, W8, k8⟩
      have hb8 := k8.keeps hb7 HB7.out
      have c81 : w8.cell? ⟨wr.heap.size, 1, none⟩ = some (Uv y.s) := IsO.cell (cs := [Sv y.k, Uv y.s]) hb8 rfl
      have hek := encTx_length y.k
      have H9 := Hid.mk (wq_num W8 HK.out.2.2 (by rw [List.length_append, List.length_append]; omega))
      clear W8 k8 hb8 H8
      go_wp2_with fail
      refine H9.out.mono ?_
      rintro e w9 ⟨rfl, v9, W9, -⟩
      have HW9 : Hid (∃ v, Wq w w9 q v (B1 ++ encK (K.take (j + 1)))) := ⟨v9, by rw [HE.out]; simpa [List.append_assoc] using W9⟩
      clear W9 c81 H9 d0 d1 hb7
      go_wp2_with fail
      go_roundw
      case rel => exact ⟨j + 1, by go_num, by omega, HW9⟩
      case measure => simp [intOf]; omega
    · obtain rfl : j = n := by omega
      have hc := hOr.count
      rw [HM.out] at hc
      have H10 := Hid.mk (wq_num W6 (n := m) (by unfold U64; omega) (by rw [List.length_append]; omega))
      clear W6 hOr hH
      go_wp2_with fail
      refine H10.out.mono ?_
      rintro e w10 ⟨rfl, v10, W10, -⟩
      rw [List.take_of_length_le (by have := HN.out; omega)] at W10 hlK
      have hc10 := (HO.out.kept0 W10.2.2.2).count
      rw [HM.out] at hc10
      have HW10 := Hid.mk W10
      clear W10 hc H10
      go_wp2_with fail
      go_quiet (fail)
      have HW11 := Hid.mk (HW10.out.kept0 ((Kept.refl [] w10).drewN nq))
      generalize w10.drewN nq = w11 at HW11 ⊢
      clear HW10 hc10
      have hB2 : (B1 ++ encK K ++ enc m).length ≤ 4000 := by rw [List.length_append, List.length_append]; omega
      generalize hBB : B1 ++ encK K ++ enc m = B2 at *
      have HB2 := Hid.mk hBB
      clear hBB
      go_wp2_with fail
      go_loopw [65] (fun i wr => ∃ j : Nat, i = .int .i64 (j : Int) ∧ j ≤ m ∧ Hid (∃ v, Wq w wr q v (B2 ++ encY ((qs.map ot).take j)))) (fun i _ => m - (intOf i).toNat)
      case atStart => exact ⟨0, rfl, by omega, Hid.mk ⟨v10, by simpa [encY] using HW11.out⟩⟩
      case round =>
        clear HW11 HW5 hlt hlK
        obtain ⟨j, rfl, hj, hH⟩ := hrel
        obtain ⟨v6, W6⟩ := hH.out
        have hOr := HO.out.kept0 W6.2.2.2
        have hlY := encY_length (L := (qs.map ot).take j) (fun y hy => HG.out.to40 (List.mem_of_mem_take hy))
        rw [List.length_take, List.length_map, HM.out] at hlY
        by_cases hlt : j < m
        · have hjI : (j : Int) < (m : Int) := by omega
          have hj0 : (0 : Int) ≤ (j : Int) := by omega
          obtain ⟨y, hy⟩ : ∃ y, qs[j]? = some y := ⟨_, List.getElem?_eq_getElem (by have := HM.out; omega)⟩
          have hyL : (qs.map ot)[j]? = some (ot y) := by rw [List.getElem?_map, hy]; rfl
          obtain ⟨d0, d1, d2, d3, d4⟩ := hOr.at hy
          have hym := List.mem_of_getElem? hyL
          obtain ⟨hfo, hto⟩ := HG.out.to40 hym
          have hok : y.q.x.ok := (HG.out.lets _ hym).1
          have hfo : y.q.x.formed = true := hfo
          have hto : y.to.length ≤ 40 := hto
          have harg := hOr.args y (List.mem_of_getElem? hy)
          obtain ⟨W7, e7, k7, hz7, hb7⟩ := box1 wr (.cells #[Sv y.to, Sv y.q.x.fr, .int .u64 (y.q.x.ser : Int), .int .i64 y.q.x.kind, .slice y.q.ad y.q.x.args.length y.q.cap] 130)
          have d4 : wr.cell? ⟨p, 130 + j * 5 + 4, none⟩ = some (.slice y.q.ad y.q.x.args.length y.q.cap) := d4
          have HX : Hid (Calls Tryz.prog 111 #[Lv y.q.x y.q.ad y.q.cap] W7 fun e w' => TwoB W7 (encL y.q.x) 0 e w') := by
            have := encode11 y.q.x y.q.ad y.q.cap (harg.reads.kept k7 (by simp)) hok
            have e1 : encB y.q.x = encL y.q.x := by simp [encB, hfo]
            have e2 : encE y.q.x = 0 := by simp [encE, hfo]
            rw [e1, e2] at this
            exact this
          have W7q := Hid.mk (W6.kept0 k7)
          have HE := Hid.mk (encY_take hyL)
          have E7 := Hid.mk e7
          have hxl := encL_length y.q.x
          have hfl := formed_le hfo
          clear hH W6 hOr hy hyL hym k7 hz7 e7 harg hok hfo
          go_wp2_with fail
          rw [E7.out]
          refine HX.out.mono ?_
          rintro e w8 ⟨v8, rfl, hO8, k8, hf8⟩
          have W8q := W7q.out.kept0 k8
          have hb8 := k8.keeps hb7 (by simp)
          have c80 := (cells5 hb8).1
          have hft8 := W8q.notin hb8 (by decide)
          have HV : Hid (∀ W, Kept (foot q v6) w8 W → Reads W v8 (encL y.q.x)) := fun W k => hO8.reads.kept k (fun g hg hm => by
            have h1 := hf8 g hg
            rcases mem_foot.1 hm with rfl | h
            · have := W7q.out.1.lt; omega
            · have := W7q.out.1.own.lt h; omega)
          obtain ⟨a8, n8, rfl⟩ := hO8.form
          have H9 := Hid.mk (wq_text W8q y.to (by omega) (by rw [List.length_append]; omega))
          clear W8q hO8 k8 hf8 HX hb8 W7q
          go_wp2_with fail
          refine H9.out.mono ?_
          rintro e w9 ⟨rfl, v9, W9, k9⟩
          have hst := string_of 73 5 Tryz.underlying73 9 Tryz.underlying5 Tryz.underlying9 _ _ _ (HV.out _ k9)
          have het := encTx_length y.to
          have H10 := Hid.mk (wq_text W9 (encL y.q.x) (by omega) (by rw [List.length_append, List.length_append]; omega))
          clear W9 k9 H9 HV c80
          go_wp2_with fail
          refine H10.out.mono ?_
          rintro e w12 ⟨rfl, v12, W12, -⟩
          have HW12 : Hid (∃ v, Wq w w12 q v (B2 ++ encY ((qs.map ot).take (j + 1)))) := ⟨v12, by rw [HE.out]; simpa [List.append_assoc, ot] using W12⟩
          clear W12 H10 hst d0 d1 d2 d3 d4 hb7
          go_wp2_with fail
          go_roundw
          case rel => exact ⟨j + 1, by go_num, by omega, HW12⟩
          case measure => simp [intOf]; omega
        · obtain rfl : j = m := by omega
          have HBt := Hid.mk (wbytes_any q v6 _ wr W6.1 (by rw [List.length_append]; omega))
          have HKr := Hid.mk W6.2.2.2
          clear W6 hOr hH
          go_wp2_with fail
          refine HBt.out.mono ?_
          rintro e w13 ⟨v13, rfl, hO13, k13, hf13⟩
          go_wp2_with fail
          go_ret
          refine ⟨v13, rfl, ?_, HKr.out.trans k13 (by simp), fun g hg => ?_⟩
          · rw [List.take_of_length_le (by rw [List.length_map]; have := HM.out; omega), ← HB2.out, ← HB1.out] at hO13
            unfold encO
            dsimp only
            rw [List.length_map, HN.out, HM.out]
            simpa [List.append_assoc] using hO13
          · have := hf13 g hg
            have := HKr.out.size
            omega
end
end Go.Proofs.YtngnenbidpojeaaGreatDoor
/-
  What is told of an actor: its key, its limits, whether it is fresh.
-/
namespace Go.Proofs.YtngnenbidpojeaaGreatDoor
set_option maxRecDepth 100000
open Go.RowKit
set_option linter.unusedVariables false
/-- The program's actor a lies at p; its parts. -/
structure ActP (w : World) (p : Nat) (a : Ac) (pj pi po : Nat) (av : Option Addr) (cv : Nat) (qs : List Lq) (ys : List Yq) (ms : List Lq) : Prop where
  box : w.heap[p]? = some (.cells #[Ptr pj, Ptr pi, Ptr po, Iv a.tries, .slice av a.poi.length cv] 66 (0, 0))
  j : IsJ w pj a.j
  i : IsB w pi qs
  iq : qs.map (·.x) = a.inb
  o : IsO w po a.out.own a.out.K ys
  oy : ys.map ot = a.out.L
  row : RowQ w (.slice av a.poi.length cv) ms
  vals : ValsQ w ms
  pm : ms.map (·.x) = a.poi
  g : GoodP a
def IsAct (w : World) (p : Nat) (a : Ac) : Prop := ∃ pj pi po av cv qs ys ms, ActP w p a pj pi po av cv qs ys ms
section
variable {w w' : World} {p pj pi po : Nat} {a : Ac} {av : Option Addr} {cv : Nat} {qs ms : List Lq} {ys : List Yq}
theorem ActP.kept0 (h : ActP w p a pj pi po av cv qs ys ms) (k : Kept [] w w') : ActP w' p a pj pi po av cv qs ys ms :=
  ⟨k.keeps h.box (by simp), h.j.kept0 k, h.i.kept0 k, h.iq, h.o.kept0 k, h.oy, h.row.kept k (by simp), h.vals.kept0 k, h.pm, h.g⟩
theorem IsAct.kept0 (h : IsAct w p a) (k : Kept [] w w') : IsAct w' p a := by
  obtain ⟨pj, pi, po, av, cv, qs, ys, ms, h⟩ := h
  exact ⟨pj, pi, po, av, cv, qs, ys, ms, h.kept0 k⟩
theorem ActP.cells (h : ActP w p a pj pi po av cv qs ys ms) : w.cell? ⟨p, 0, none⟩ = some (Ptr pj) ∧ w.cell? ⟨p, 1, none⟩ = some (Ptr pi) ∧ w.cell? ⟨p, 2, none⟩ = some (Ptr po) ∧ w.cell? ⟨p, 3, none⟩ = some (Iv a.tries) ∧ w.cell? ⟨p, 4, none⟩ = some (.slice av a.poi.length cv) := by
  have h := h.box
  refine ⟨?_, ?_, ?_, ?_, ?_⟩ <;> (unfold World.cell?; rw [h]; rfl)
theorem ActP.ql (h : ActP w p a pj pi po av cv qs ys ms) : qs.length = a.inb.length := by rw [← h.iq, List.length_map]
/-- Tries, letters and poison that an actor may have (but for the poison's form). -/
def keepsA (a : Ac) : Bool := decide (0 ≤ a.tries) && decide (a.tries < 3) && (decide (a.tries = 0) || decide (0 < a.inb.length)) && decide (a.poi.length ≤ 8)
theorem keepsA_iff (a : Ac) : keepsA a = true ↔ 0 ≤ a.tries ∧ a.tries < 3 ∧ (a.tries = 0 ∨ 0 < a.inb.length) ∧ a.poi.length ≤ 8 := by
  simp [keepsA, and_assoc]
set_option maxHeartbeats 4000000 in
theorem keeps20 (h : IsAct w p a) : Calls Tryz.prog 61 #[Ptr p] w fun e w' => e = .returned (.bool (keepsA a)) ∧ Kept [] w w' := by
  obtain ⟨pj, pi, po, av, cv, qs, ys, ms, h⟩ := h
  have hne : (a.out.own == []) = false := by have := h.g.out.ne.1; simpa using this
  have hql := h.ql
  obtain ⟨hb1, hb2, hb3⟩ := h.row.bound
  obtain ⟨d0, d1, d2, d3, d4⟩ := h.cells
  have HO := Hid.mk (owner24 h.o (by have := h.g.out.ne.2; omega))
  have HA := Hid.mk h
  have HI := Hid.mk (keepsA_iff a)
  generalize keepsA a = R at *
  generalize hT : a.tries = t at *
  generalize hM : a.inb.length = n at *
  generalize hPl : a.poi.length = m at *
  have HT := Hid.mk (And.intro hT (And.intro hM hPl))
  clear h hT hM hPl hb1
  have no : ¬ (0 ≤ t ∧ t < 3 ∧ (t = 0 ∨ 0 < n) ∧ m ≤ 8) → Hid (R = false) := fun h' => by
    cases hS : R with
    | false => exact Hid.mk rfl
    | true => exact absurd (HI.out.1 hS) h'
  have yes : (0 ≤ t ∧ t < 3 ∧ (t = 0 ∨ 0 < n) ∧ m ≤ 8) → Hid (R = true) := fun h' => Hid.mk (HI.out.2 h')
  go_enter Tryz.func61, Tryz.ntmps61
  go_wp2_with fail
  refine HO.out.mono ?_
  rintro e w1 ⟨rfl, k1⟩
  have h1 := HA.out.kept0 k1
  obtain ⟨e0, e1, e2, e3, e4⟩ := h1.cells
  rw [HT.out.1] at e3
  rw [HT.out.2.2] at e4
  have HLn := Hid.mk (len21 h1.i)
  rw [hql] at HLn
  have HK1 := Hid.mk k1
  clear h1 k1 d0 d1 d2 d3 d4 HO HA
  generalize a.out.own = own at *
  cases own with
  | nil => simp at hne
  | cons u own =>
    clear hne
    by_cases h0 : t < 0
    · have g0 : (0 ≤ t) = False := eq_false (by omega)
      have hR := no (by omega)
      clear no yes
      go_wp2_with fail
      go_ret
      rw [hR.out]
      exact ⟨rfl, HK1.out⟩
    · have g0 : 0 ≤ t := by omega
      by_cases h3 : t < 3
      · by_cases hz : t = 0
        · subst hz
          by_cases h8 : m ≤ 8
          · have g8 : (m : Int) ≤ 8 := by omega
            have hR := yes (by omega)
            clear no yes
            go_wp2_with fail
            go_ret
            rw [hR.out]
            exact ⟨rfl, HK1.out⟩
          · have g8 : ((m : Int) ≤ 8) = False := eq_false (by omega)
            have hR := no (by omega)
            clear no yes
            go_wp2_with fail
            go_ret
            rw [hR.out]
            exact ⟨rfl, HK1.out⟩
        · have gz : (t == 0) = false := beq_eq_false_iff_ne.2 hz
          by_cases hn : 0 < n
          · have gn : (0 : Int) < (n : Int) := by omega
            by_cases h8 : m ≤ 8
            · have g8 : (m : Int) ≤ 8 := by omega
              have hR := yes (by omega)
              clear no yes
              go_wp2_with fail
              refine HLn.out.mono ?_
              rintro e w2 ⟨rfl, rfl⟩
              go_wp2_with fail
              go_ret
              rw [hR.out]
              exact ⟨rfl, HK1.out⟩
            · have g8 : ((m : Int) ≤ 8) = False := eq_false (by omega)
              have hR := no (by omega)
              clear no yes
              go_wp2_with fail
              refine HLn.out.mono ?_
              rintro e w2 ⟨rfl, rfl⟩
              go_wp2_with fail
              go_ret
              rw [hR.out]
              exact ⟨rfl, HK1.out⟩
          · have hR := no (by omega)
            have hn0 : n = 0 := by omega
            clear no yes
            subst hn0
            go_wp2_with fail
            refine HLn.out.mono ?_
            rintro e w2 ⟨rfl, rfl⟩
            go_wp2_with fail
            go_ret
            rw [hR.out]
            exact ⟨rfl, HK1.out⟩
      · have g3 : (t < 3) = False := eq_false h3
        have hR := no (by omega)
        clear no yes
        go_wp2_with fail
        go_ret
        rw [hR.out]
        exact ⟨rfl, HK1.out⟩
end
end Go.Proofs.YtngnenbidpojeaaGreatDoor
/-
  Fresh of an actor.
-/
namespace Go.Proofs.YtngnenbidpojeaaGreatDoor
set_option maxRecDepth 100000
open Go.RowKit
set_option linter.unusedVariables false
section
variable {w w' : World} {p : Nat} {a : Ac}
end
/-- The document's actor a lies at f. -/
structure ActF (w0 w : World) (f : Nat) (a : Ac) (fj fi fo : Nat) (uj ui uo xo : Value) (av : Option Addr) (cv : Nat) (qs : List Lq) (ys : List Yq) (ms : List Lq) : Prop where
  box : w.heap[f]? = some (.cells #[Ptr fj, Ptr fi, Ptr fo, Iv a.tries, .slice av a.poi.length cv] 61 (0, 0))
  j : IsF_J w fj uj a.j
  i : IsF_I w0 w fi ui qs
  iq : qs.map (·.x) = a.inb
  o : IsF w0 w fo uo xo a.out.own a.out.K ys
  oy : ys.map ot = a.out.L
  row : RowQ w (.slice av a.poi.length cv) ms
  vals : ValsQ w ms
  pm : ms.map (·.x) = a.poi
  g : GoodP a
def IsAf (w : World) (f : Nat) (a : Ac) : Prop := ∃ w0 fj fi fo uj ui uo xo av cv qs ys ms, ActF w0 w f a fj fi fo uj ui uo xo av cv qs ys ms
section
variable {w0 w w' : World} {f fj fi fo : Nat} {a : Ac} {uj ui uo xo : Value} {av : Option Addr} {cv : Nat} {qs ms : List Lq} {ys : List Yq}
theorem ActF.kept0 (h : ActF w0 w f a fj fi fo uj ui uo xo av cv qs ys ms) (k : Kept [] w w') : ActF w0 w' f a fj fi fo uj ui uo xo av cv qs ys ms :=
  ⟨k.keeps h.box (by simp), h.j.kept0 k, h.i.kept0 k, h.iq, h.o.kept0 k, h.oy, h.row.kept k (by simp), h.vals.kept0 k, h.pm, h.g⟩
theorem IsAf.kept0 (h : IsAf w f a) (k : Kept [] w w') : IsAf w' f a := by
  obtain ⟨w0, fj, fi, fo, uj, ui, uo, xo, av, cv, qs, ys, ms, h⟩ := h
  exact ⟨w0, fj, fi, fo, uj, ui, uo, xo, av, cv, qs, ys, ms, h.kept0 k⟩
theorem ActF.cells (h : ActF w0 w f a fj fi fo uj ui uo xo av cv qs ys ms) : w.cell? ⟨f, 0, none⟩ = some (Ptr fj) ∧ w.cell? ⟨f, 1, none⟩ = some (Ptr fi) ∧ w.cell? ⟨f, 2, none⟩ = some (Ptr fo) ∧ w.cell? ⟨f, 3, none⟩ = some (Iv a.tries) ∧ w.cell? ⟨f, 4, none⟩ = some (.slice av a.poi.length cv) := by
  have h := h.box
  refine ⟨?_, ?_, ?_, ?_, ?_⟩ <;> (unfold World.cell?; rw [h]; rfl)
theorem ActF.ql (h : ActF w0 w f a fj fi fo uj ui uo xo av cv qs ys ms) : qs.length = a.inb.length := by rw [← h.iq, List.length_map]
end
end Go.Proofs.YtngnenbidpojeaaGreatDoor
/-
  Of: the walk.
-/
namespace Go.Proofs.YtngnenbidpojeaaGreatDoor
set_option maxRecDepth 100000
open Go.RowKit
set_option linter.unusedVariables false
theorem ownsJ_one (W : World) (m : Int) : OwnsJ (W.alloc (.cells #[.int .i64 m] 2)) (.slice (some ⟨W.heap.size, 0, none⟩) 1 1) [m] :=
  World.ownsRow_lit (base := 0) (e := 2) (size := 1) W #[.int .i64 m] 1 (Nat.zero_le _) (by decide) rfl
theorem getD_at {α : Type} {l : List α} {k : Nat} {x : α} (h : l[k]? = some x) (d : α) : l.getD k d = x := by simp [List.getD, h]
theorem ownL_set {w0 w : World} {v x : Value} {qs : List Lq} {p i : Nat} {cs : Array Value} {t : TypeId} (h : OwnL w0 w v qs) (hb : w.heap[p]? = some (.cells cs t (0, 0))) (h1 : t ≠ 81) (h2 : t ≠ 2) : OwnL w0 (w.setCell ⟨p, i, none⟩ x) v qs :=
  h.kept ((Kept.refl [p] w).setCell (p := ⟨p, i, none⟩) (.inl (by simp)) x) fun y hy => by
    simp at hy
    subst hy
    exact ⟨ownsR_ne h.own hb h1, fun q hq => ownsJ_ne (h.args q hq) hb h2⟩
section
variable {w : World}
end
end Go.Proofs.YtngnenbidpojeaaGreatDoor
/-
  Both actors, told.
-/
namespace Go.Proofs.YtngnenbidpojeaaGreatDoor
set_option maxRecDepth 100000
open Go.RowKit
set_option linter.unusedVariables false
section
variable {w0 w w' : World} {p pj pi po : Nat} {a : Ac} {P : Pt} {v u : Value}
theorem PA.act (h : PA w0 w p pj pi po a.tries v a) (hv : PoiAt w v a.poi) (g : GoodP a) : IsAct w p a := by
  obtain ⟨h1, h2, ⟨qs, h3, h4⟩, ⟨ys, h5, h6⟩, -⟩ := h
  obtain ⟨ms, h7, h8, h9⟩ := hv
  obtain ⟨av, cv, rfl, -, -⟩ := h7.form
  have e : ms.length = a.poi.length := by rw [← h9, List.length_map]
  rw [e] at h1 h7
  exact ⟨pj, pi, po, av, cv, qs, ys, ms, h1, h2, h3, h4, h5, h6, h7, h8, h9, g⟩
theorem FA.act {f fj fi fo : Nat} (h : FA w0 w f fj fi fo a.tries v a) (hv : PoiAt w v a.poi) (g : GoodP a) : IsAf w f a := by
  obtain ⟨h1, ⟨uj, h2, -⟩, ⟨ui, qs, h3, h4⟩, ⟨uo, xo, ys, h5, h6⟩, -⟩ := h
  obtain ⟨ms, h7, h8, h9⟩ := hv
  obtain ⟨av, cv, rfl, -, -⟩ := h7.form
  have e : ms.length = a.poi.length := by rw [← h9, List.length_map]
  rw [e] at h1 h7
  exact ⟨w0, fj, fi, fo, uj, ui, uo, xo, av, cv, qs, ys, ms, h1, h2, h3, h4, h5, h6, h7, h8, h9, g⟩
theorem PoiAt.nil (w : World) : PoiAt w (.slice none 0 0) [] := ⟨[], ReadsR.nil 4 w, by intro q hq; simp at hq, rfl⟩
end
end Go.Proofs.YtngnenbidpojeaaGreatDoor
/-
  What the program's package-level variable holds: the table of operations.
-/
namespace Go.Proofs.YtngnenbidpojeaaGreatDoor
open Go.RowKit
set_option maxRecDepth 100000
theorem gOps : Tryz.prog.globalNamed "reeve/code.operations" = some 0 := by kernel_rfl
/-- What the variable holds. -/
structure Glob (w : World) : Prop where
  ops : ∀ (i : Nat) (s : List UInt8) (k : Nat), words[i]? = some (s, k) → w.cell? ⟨0, 2 * i, none⟩ = some (.string ⟨s.toArray⟩) ∧ w.cell? ⟨0, 2 * i + 1, none⟩ = some (.int .i64 k)
theorem cells_of_ops {w : World} {fuel : Nat} {cs : List Value} {p : List MemPlace} {zs : List (List UInt8 × Nat)}
    (h : DataW.trod (fun _ => ()) Tryz.prog w 0 (fun _ => true) false fuel 226 cs = some (.agg (zs.map fun z => .agg [.lit (.string z.1), .lit (.int .i64 z.2)]), p)) :
    ∀ (i : Nat) (s : List UInt8) (k : Nat), zs[i]? = some (s, k) → cs[2 * i]? = some (.string ⟨s.toArray⟩) ∧ cs[2 * i + 1]? = some (.int .i64 k) := by
  have hce : Tryz.prog.cellsOf 225 = 2 := by kernel_rfl
  have hct : Tryz.prog.cellsOf 226 = 48 := by kernel_rfl
  have hc9 : Tryz.prog.cellsOf 9 = 1 := by kernel_rfl
  have hc3 : Tryz.prog.cellsOf 3 = 1 := by kernel_rfl
  cases fuel with
  | zero => simp [DataW.trod] at h
  | succ fuel =>
    simp only [DataW.trod, Tryz.underlying226, hce, hct] at h
    split at h
    · rename_i hl
      obtain ⟨xs, hm, hx⟩ := Option.map_eq_some_iff.1 h
      have hxs : xs.map (·.1) = zs.map fun z => (DataW.agg [.lit (.string z.1), .lit (.int .i64 z.2)] : DataW Unit) := by
        have := congrArg Prod.fst hx
        simpa using this
      have hxl : xs.length = 24 := by simpa using Lib.mapM_length hm
      intro i s k hz
      have hi : i < 24 := by
        have := congrArg List.length hxs
        simp at this
        have := (List.getElem?_eq_some_iff.1 hz).1
        omega
      obtain ⟨b, hb, hf⟩ := Lib.mapM_at hm i i (by simp [hi])
      obtain ⟨ys, n, hn, rfl, hlen, hys, hall⟩ := DataW.trod_struct Tryz.underlying225 hf
      have h1 : (xs.map (·.1))[i]? = some (DataW.agg (ys.map (·.1))) := by simp [hb]
      rw [hxs] at h1
      simp only [List.getElem?_map, hz, Option.map_some, Option.some.injEq, DataW.agg.injEq] at h1
      have f0 := hall 0 ⟨"word", 9, 0, false, "", "reeve/code", 0⟩ rfl
      have f1 := hall 1 ⟨"takes", 3, 1, false, "", "reeve/code", 16⟩ rfl
      have hy2 : ys.length = 2 := hys
      obtain ⟨y0, y1, rfl⟩ : ∃ y0 y1, ys = [y0, y1] := by
        match ys, hy2 with
        | [a, b], _ => exact ⟨a, b, rfl⟩
      rw [hc9] at f0
      rw [hc3] at f1
      obtain ⟨s0, e0, r0, -⟩ := DataW.trod_string Tryz.underlying9 f0
      obtain ⟨k0, e1, r1, -⟩ := DataW.trod_int Tryz.underlying3 f1
      subst r0 r1
      simp only [List.map_cons, List.map_nil, List.cons.injEq, DataW.lit.injEq, Lit.string.injEq, Lit.int.injEq, true_and, and_true] at h1
      obtain ⟨q0, q1⟩ := h1
      subst q0
      constructor
      · have := congrArg (·[0]?) e0
        simp [List.getElem?_drop] at this
        rw [Nat.mul_comm, this]
      · have := congrArg (·[0]?) e1
        simp [List.getElem?_drop] at this
        rw [Nat.mul_comm, this, q1]
    · cases h
theorem glob_of {W : World} (h0 : laidMet Tryz.prog [("reeve/code.operations", Rows.laid_reeve_code_operations)] W) : Glob W := by
  obtain ⟨ps, ⟨g, t, cs, fuel, p, q, hg, ht, hv, hd, _, _⟩, _⟩ := h0
  obtain rfl := Option.some.inj (gOps.symm.trans hg)
  obtain rfl := Option.some.inj ((show (Tryz.prog.globals[0]?).map (·.type) = some 226 by kernel_rfl).symm.trans ht)
  have := cells_of_ops (zs := words) hd
  refine ⟨fun i s k hz => ?_⟩
  obtain ⟨c1, c2⟩ := this i s k hz
  rw [Array.getElem?_toList] at c1 c2
  exact ⟨(World.var?_cell gOps hv (2 * i)).trans c1, (World.var?_cell gOps hv (2 * i + 1)).trans c2⟩
/-- Where no old block is turned, the variable holds what it held. -/
theorem Glob.kept {w w' : World} (h : Glob w) (k : Kept [] w w') : Glob w' := ⟨fun i s n hz => ⟨k.cell_eq (h.ops i s n hz).1, k.cell_eq (h.ops i s n hz).2⟩⟩
end Go.Proofs.YtngnenbidpojeaaGreatDoor
