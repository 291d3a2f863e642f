/-
  Save that is lost.
-/
import Derived.Test.YthjdlbejfaejkaaSave
namespace Go.Proofs.Ythjdlbejfaejkaa
open Go.RowKit
set_option linter.unusedVariables false

theorem IsS.setOver {w : World} {p : Nat} {v : Value} {r : Rc} {q : Nat} {over : Bool} (h : IsS w p v r q over) : IsS (w.setCell ⟨p, 3, none⟩ (.bool true)) p v r q true ∧ Kept [p] w (w.setCell ⟨p, 3, none⟩ (.bool true)) := by
  have k : Kept [p] w (w.setCell ⟨p, 3, none⟩ (.bool true)) := (Kept.refl [p] w).setCell (.inl (by simp)) _
  refine ⟨⟨?_, h.reads.kept k (fun g hg => by simp; intro e; subst e; exact h.apart hg), h.apart, h.gen, h.len, fun g hg => Nat.lt_of_lt_of_le (h.vlt g hg) k.size⟩, k⟩
  rw [heap_setCell_same w p 3 _ 50 _ h.box]
  rfl

set_option maxRecDepth 100000 in
set_option maxHeartbeats 400000 in
theorem save_lost {w : World} {F : List Nat} {q : Nat} {s : St} {p : Nat} {v : Value} {r : Rc} (hY : Sys w F q s p v r false) (a : Option Addr) (n cap : Nat) (l : List UInt8) (hr : Reads w (.slice a n cap) l) (hn : l.length = n) (h : n ≤ 200) (hg : r.1 ≤ 1000) (hb : s.ws.length ≤ 1000) (hE : wrE s (plc (r.1 + 1) : Int) 256 = 9) :
    Calls Try.prog 12 #[.pointer (some ⟨p, 0, none⟩), .slice a n cap] w fun e w' => e = .returned (.int .i64 9) ∧ ∃ F', Sys w' F' q (wrS s (plc (r.1 + 1) : Int) (blkOf (r.1 + 1) l)) p v r true ∧ Kept (p :: F) w w' ∧ NewF w F F' := by
  have hn2 : ¬ (200 : Int) < (n : Int) := by omega
  obtain ⟨hD, hS, hpF, hvF⟩ := hY
  obtain ⟨d0, d1, d2, d3⟩ := cells4 hS.box
  have hcl := fun W (k : Kept [] w W) => clone_any (.slice a n cap) l W (hr.kept k (by simp)) (by omega)
  have S0 : w.drew.cell? ⟨p, 0, none⟩ = some (.int .u64 (r.1 : Int)) := d0
  have hplt := hS.lt
  obtain ⟨G, hG⟩ : ∃ G, Hid (r.1 + 1 = G) := ⟨_, rfl⟩
  have eG : (r.1 : Int) + 1 = (G : Int) := by have := hG.out; omega
  have hw1 : IntKind.u64.wrap (G : Int) = (G : Int) := by rw [show IntKind.u64.wrap (G : Int) = (G : Int) % 18446744073709551616 by simp [IntKind.wrap, IntKind.bits, IntKind.signed]]; have := hG.out; omega
  rw [hG.out] at hE ⊢
  obtain ⟨s', hs'⟩ : ∃ s', Hid (wrS s (plc G : Int) (blkOf G l) = s') := ⟨_, rfl⟩
  rw [hs'.out]
  have hGl : Hid (G < 18446744073709551616) := by show G < _; have := hG.out; omega
  have hN0 := World.new_ne w _ d0
  have K0 : Kept [] w w.drew := (Kept.refl [] w).drew
  have K1 : Kept [] w (w.alloc (.cells #[.int .u64 0, .slice none 0 0] 48)).drew := ((Kept.refl [] w).alloc _).drew
  have hHb := Hid.mk hb
  have hHv := Hid.mk hS.vlt
  have hHE := Hid.mk hE
  have hHr := Hid.mk hr
  have hHn := Hid.mk hn
  have hHg := Hid.mk hg
  have hHl : Hid (l.length ≤ 200) := by show l.length ≤ 200; omega
  clear hb hE hr hn hg
  go_enter Try.func12, Try.ntmps12
  go_wp2_with fail
  go_region_held3 (fun w' => w'.cell? ⟨p, 0, none⟩ = some (.int .u64 (r.1 : Int))) (first | exact S0 | exact S1 | go_keep) (first | (go_at_call 21; refine (hcl _ (by first | exact K0 | exact K1)).mono ?_; rintro e w1 ⟨v1, rfl, hO1, k1, f1⟩; have S1 : w1.cell? ⟨p, 0, none⟩ = some (.int .u64 (r.1 : Int)) := (by rw [k1.cell (by simp; omega) (by simp)]; go_keep); obtain ⟨a1, c1, hv1⟩ := hO1.form; rw [hHn.out] at hv1; subst hv1; have N1 := World.new_ne w1 _ S1; try (have B1 : Boxed w1 w.heap.size 0 (.slice none 0 0) := k1.keeps (heap_alloc_new w _) (by simp); obtain ⟨B2, B3⟩ := cell_of_two B1; obtain ⟨B4, B5⟩ := free_of_two B1)))
  all_goals
    first
    | (have U := next_behind (G := G) K0 hO1 k1 f1
       generalize w1.alloc (.cells #[.int .u64 (G : Int), .slice a1 n c1] 48) = w2 at U ⊢
       generalize w1.heap.size = b at U ⊢)
    | (have U := next_ahead (G := G) K1 (Nat.le_refl _) (by simp) B1 hO1 k1 f1
       clear B1 B2 B3 B4 B5
       generalize (w1.setCell ⟨w.heap.size, 0, none⟩ (.int .u64 (G : Int))).setCell ⟨w.heap.size, 1, none⟩ (.slice a1 n c1) = w2 at U ⊢
       generalize hb : w.heap.size = b at U ⊢)
    obtain ⟨uB, uK, ub, uR, uF, uL⟩ := U
    have ub' : w.heap.size ≤ b := by omega
    clear hO1 k1 f1 S1 N1 S0 K0 K1 d0 d1 d2 d3 hcl
    have kd : Kept [] w2 w2.drew := (Kept.refl [] w2).drew
    have uK2 := uK.trans kd (by simp)
    have hD2 := hD.kept uK2 (by simp)
    have hS2 := hS.kept uK2 (by simp) (by simp)
    have uB2 := uB.kept kd (by simp)
    have hbF : b ∉ F := fun hm => by have := hD.lt b hm; omega
    have hv1F : ∀ g, (Value.slice a1 n c1).ownBlock = some g → g ∉ F := fun g hg hm => by have := hD.lt g hm; have := uF g hg; omega
    obtain ⟨x0, x1⟩ := cell_of_two uB
    obtain ⟨e0, e1, e2, e3⟩ := cells4 (hS.kept uK (by simp) (by simp)).box
    have S2 : NextS p q b G (.slice a1 n c1) w2.drew := ⟨(cells4 hS2.box).2.2.1, cell_of_two uB2⟩
    have hput := put_any hD2 S2 (uR.kept kd (by simp)) hHl.out hGl.out hpF hbF hHb.out
    rw [hHE.out, hs'.out] at hput
    unfold NextS at hput S2
    have hpb : p ≠ b := by omega
    clear hD2 uB2 e3 hw1 eG
    go_wp2_with fail
    go_region_held3 (fun w' => w'.cell? ⟨p, 2, none⟩ = some (.pointer (some ⟨q, 0, none⟩)) ∧ w'.cell? ⟨b, 0, none⟩ = some (.int .u64 (G : Int)) ∧ w'.cell? ⟨b, 1, none⟩ = some (.slice a1 n c1)) (first | exact S2 | exact S3 | exact S4 | exact S5) (first | (go_at_call 22; refine hC.mono ?_; rintro e w5 ⟨rfl, S5, hfin⟩) | (go_at_call 24; refine hB.mono ?_; rintro e w4 ⟨v4, rfl, S4, hC⟩) | (go_at_call 23; refine hput.mono ?_; rintro e w3 ⟨rfl, S3, hB⟩))
    obtain ⟨F', hD5, k5, n5⟩ := hfin
    have hS5 := hS2.kept k5 hpF hvF
    have hplt5 : p < w2.heap.size := by have := uK.size; omega
    obtain ⟨hS6, k6⟩ := hS5.setOver
    have hpF' : p ∉ F' := fun hm => by
      rcases n5 p hm with h | h
      · exact hpF h
      · have h' : w2.heap.size ≤ p := h; omega
    have hvF' : ∀ g, v.ownBlock = some g → g ∉ F' := fun g hg hm => by
      rcases n5 g hm with h | h
      · exact hvF g hg h
      · have h' : w2.heap.size ≤ g := h
        have := hHv.out g hg
        have := uK.size
        omega
    have hfin : Hid (∃ F', Sys (w5.setCell ⟨p, 3, none⟩ (.bool true)) F' q s' p v r true ∧ Kept (p :: F) w (w5.setCell ⟨p, 3, none⟩ (.bool true)) ∧ NewF w F F') :=
      ⟨F', ⟨hD5.kept k6 (fun x hx => by simp; intro e; subst e; exact hpF' hx), hS6, hpF', hvF'⟩, ((uK2.mono (by simp)).trans (k5.mono (fun x hx => .inl (List.mem_cons_of_mem p hx))) (fun x hx => .inl hx)).trans (k6.mono (fun x hx => .inl (by simp at hx; simp [hx]))) (fun x hx => .inl hx), fun x hx => by
        rcases n5 x hx with h | h
        · exact .inl h
        · exact .inr (Nat.le_trans uK2.size h)⟩
    obtain ⟨y0, y1, y2, y3⟩ := cells4 hS5.box
    have z0 := free4 hS5.box 3
    clear hD5 k5 n5 hS5 hS6 k6 hput hB hC S2 S3 S4 S5 hS2 uK2 kd uB uK uR uF uL hD hS x0 x1 e0 e1 e2 hvF' hpF' hv1F hbF
    go_wp2_with fail
    go_ret
    exact ⟨rfl, hfin.out⟩

end Go.Proofs.Ythjdlbejfaejkaa
