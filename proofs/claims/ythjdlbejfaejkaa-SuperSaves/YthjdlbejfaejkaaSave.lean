/-
  Save: the next record, by one write.
-/
import Derived.Test.YthjdlbejfaejkaaOpenS
namespace Go.Proofs.Ythjdlbejfaejkaa
open Go.RowKit
set_option linter.unusedVariables false

/-- A disk and a Super of it, apart. -/
structure Sys (w : World) (F : List Nat) (q : Nat) (s : St) (p : Nat) (v : Value) (r : Rc) (over : Bool) : Prop where
  dsk : IsD w F q s
  sup : IsS w p v r q over
  pF : p ∉ F
  vF : ∀ g, v.ownBlock = some g → g ∉ F
theorem Sys.kept {w w' : World} {F : List Nat} {q : Nat} {s : St} {p : Nat} {v : Value} {r : Rc} {over : Bool} (h : Sys w F q s p v r over) (k : Kept [] w w') : Sys w' F q s p v r over :=
  ⟨h.dsk.kept k (by simp), h.sup.kept k (by simp) (by simp), h.pF, h.vF⟩

theorem save_long {w : World} {p : Nat} (a : Option Addr) (n cap : Nat) (h : 200 < n) : Calls Try.prog 12 #[.pointer (some ⟨p, 0, none⟩), .slice a n cap] w fun e w' => e = .returned (.int .i64 4) ∧ w = w' := by
  have hn : (200 : Int) < (n : Int) := by omega
  go_enter Try.func12, Try.ntmps12
  go_wp2
  go_ret
  exact ⟨rfl, rfl⟩
theorem save_over {w : World} {p : Nat} {v : Value} {r : Rc} {q : Nat} (hS : IsS w p v r q true) (a : Option Addr) (n cap : Nat) (h : n ≤ 200) : Calls Try.prog 12 #[.pointer (some ⟨p, 0, none⟩), .slice a n cap] w fun e w' => e = .returned (.int .i64 9) ∧ w = w' := by
  have hn : ¬ (200 : Int) < (n : Int) := by omega
  obtain ⟨d0, d1, d2, d3⟩ := cells4 hS.box
  clear hS
  go_enter Try.func12, Try.ntmps12
  go_wp2
  go_ret
  exact ⟨rfl, rfl⟩

/-- What the next record's cells say, wherever they lie. -/
def NextS (p q b G : Nat) (v1 : Value) (w' : World) : Prop := w'.cell? ⟨p, 2, none⟩ = some (.pointer (some ⟨q, 0, none⟩)) ∧ w'.cell? ⟨b, 0, none⟩ = some (.int .u64 (G : Int)) ∧ w'.cell? ⟨b, 1, none⟩ = some v1
theorem NextS.kept {S : List Nat} {p q b G : Nat} {v1 : Value} {w w' : World} (h : NextS p q b G v1 w) (k : Kept S w w') (hp : p ∉ S) (hb : b ∉ S) : NextS p q b G v1 w' :=
  ⟨by rw [k.cell (World.block_lt_of_cell? _ _ h.1) hp]; exact h.1, by rw [k.cell (World.block_lt_of_cell? _ _ h.2.1) hb]; exact h.2.1, by rw [k.cell (World.block_lt_of_cell? _ _ h.2.2) hb]; exact h.2.2⟩

/-- place, block and Write, one behind the other. -/
theorem put_any {w2 : World} {F : List Nat} {p q b G : Nat} {s : St} {v1 : Value} {l : List UInt8} (hD : IsD w2 F q s) (hN : NextS p q b G v1 w2) (hR : Reads w2 v1 l) (hl : l.length ≤ 200) (hG : G < 18446744073709551616) (hpF : p ∉ F) (hbF : b ∉ F) (hb : s.ws.length ≤ 1000) :
    Calls Try.prog 23 #[.agg #[.int .u64 (G : Int), v1]] w2 fun e w3 => e = .returned (.int .i64 (plc G : Int)) ∧ NextS p q b G v1 w3 ∧
      Calls Try.prog 24 #[.agg #[.int .u64 (G : Int), v1]] w3 fun e w4 => ∃ v4, e = .returned v4 ∧ NextS p q b G v1 w4 ∧
        Calls Try.prog 22 #[.pointer (some ⟨q, 0, none⟩), .int .i64 (plc G : Int), v4] w4 fun e w5 => e = .returned (.int .i64 (wrE s (plc G : Int) 256)) ∧ NextS p q b G v1 w5 ∧ ∃ F', IsD w5 F' q (wrS s (plc G : Int) (blkOf G l)) ∧ Kept F w2 w5 ∧ NewF w2 F F' := by
  refine (place_any G v1 w2 hG).mono fun e w3 ⟨he, k3⟩ => ⟨he, hN.kept k3 (by simp) (by simp), ?_⟩
  refine (block_any G v1 l w3 hG hl (hR.kept k3 (by simp))).mono fun e w4 ⟨v4, he, hS⟩ => ⟨v4, he, (hN.kept k3 (by simp) (by simp)).kept hS.kept (by simp) (by simp), ?_⟩
  have k4 := k3.trans hS.kept (by simp)
  have hv4 : ∀ g, v4.ownBlock = some g → g ∉ F := by
    obtain ⟨g, rfl, hg, _⟩ := hS
    intro x hx hm
    simp [Value.ownBlock] at hx
    have := hD.lt x hm
    have := k3.size
    omega
  refine (write_any (hD.kept k4 (by simp)) (plc G : Int) v4 (blkOf G l) hS.reads hv4 hb).mono fun e w5 ⟨he, F', h1, h2, h3⟩ => ⟨?_, ?_, F', h1, ?_, ?_⟩
  · rw [he, blkOf_length G l hl]
  · exact ((hN.kept k4 (by simp) (by simp)).kept h2 hpF hbF)
  · exact (k4.mono (by simp)).trans h2 (fun x hx => .inl hx)
  · intro x hx
    rcases h3 x hx with h | h
    · exact .inl h
    · exact .inr (Nat.le_trans k4.size h)

/-- The next record lies boxed, its payload in new memory. -/
def NextOk (w X : World) (b G : Nat) (v1 : Value) (l : List UInt8) : Prop := Boxed X b G v1 ∧ Kept [] w X ∧ w.heap.size ≤ b ∧ Reads X v1 l ∧ Fresh w v1 ∧ ∀ g, v1.ownBlock = some g → g < X.heap.size
theorem next_behind {w wx w1 : World} {G : Nat} {v1 : Value} {l : List UInt8} (k0 : Kept [] w wx) (hO : Owns 5 w1 v1 l) (k1 : Kept [] wx w1) (f1 : Fresh wx v1) : NextOk w (w1.alloc (.cells #[.int .u64 (G : Int), v1] 48)) w1.heap.size G v1 l :=
  ⟨heap_alloc_new w1 _, (k0.trans k1 (by simp)).alloc _, (k0.trans k1 (by simp)).size, hO.reads.kept ((Kept.refl [] w1).alloc _) (by simp), fun g hg => Nat.le_trans k0.size (f1 g hg), fun g hg => by have := hO.lt hg; simp; omega⟩
theorem next_ahead {w wx w1 : World} {G b : Nat} {v0 v1 : Value} {l : List UInt8} {g0 : Nat} (k0 : Kept [] w wx) (hb : w.heap.size ≤ b) (hbx : b < wx.heap.size) (hB : Boxed w1 b g0 v0) (hO : Owns 5 w1 v1 l) (k1 : Kept [] wx w1) (f1 : Fresh wx v1) : NextOk w ((w1.setCell ⟨b, 0, none⟩ (.int .u64 (G : Int))).setCell ⟨b, 1, none⟩ v1) b G v1 l := by
  obtain ⟨h1, h2⟩ := hB.set G v1
  exact ⟨h1, (k0.trans k1 (by simp)).trans h2 (fun x hx => .inr (by simp at hx; omega)), hb, hO.reads.kept h2 (fun g hg => by have := f1 g hg; simp; omega), fun g hg => Nat.le_trans k0.size (f1 g hg), fun g hg => by have := hO.lt hg; simpa using this⟩

set_option maxRecDepth 100000 in
set_option maxHeartbeats 400000 in
theorem save_ok {w : World} {F : List Nat} {q : Nat} {s : St} {p : Nat} {v : Value} {r : Rc} (hY : Sys w F q s p v r false) (a : Option Addr) (n cap : Nat) (l : List UInt8) (hr : Reads w (.slice a n cap) l) (hn : l.length = n) (h : n ≤ 200) (hg : r.1 ≤ 1000) (hb : s.ws.length ≤ 1000) (hE : wrE s (plc (r.1 + 1) : Int) 256 = 0) :
    Calls Try.prog 12 #[.pointer (some ⟨p, 0, none⟩), .slice a n cap] w fun e w' => e = .returned (.int .i64 0) ∧ ∃ F' v', Sys w' F' q (wrS s (plc (r.1 + 1) : Int) (blkOf (r.1 + 1) l)) p v' (r.1 + 1, l) false ∧ Kept (p :: F) w w' ∧ NewF w F F' ∧ Fresh w v' := by
  have hn2 : ¬ (200 : Int) < (n : Int) := by omega
  obtain ⟨hD, hS, hpF, hvF⟩ := hY
  obtain ⟨d0, d1, d2, d3⟩ := cells4 hS.box
  have hcl := fun W (k : Kept [] w W) => clone_any (.slice a n cap) l W (hr.kept k (by simp)) (by omega)
  have S0 : w.drew.cell? ⟨p, 0, none⟩ = some (.int .u64 (r.1 : Int)) := d0
  have hplt := hS.lt
  obtain ⟨G, hG⟩ : ∃ G, Hid (r.1 + 1 = G) := ⟨_, rfl⟩
  have eG : (r.1 : Int) + 1 = (G : Int) := by have := hG.out; omega
  have hw1 : IntKind.u64.wrap (G : Int) = (G : Int) := by rw [show IntKind.u64.wrap (G : Int) = (G : Int) % 18446744073709551616 by simp [IntKind.wrap, IntKind.bits, IntKind.signed]]; have := hG.out; omega
  rw [hG.out] at hE ⊢
  obtain ⟨s', hs'⟩ : ∃ s', Hid (wrS s (plc G : Int) (blkOf G l) = s') := ⟨_, rfl⟩
  rw [hs'.out]
  have hGl : Hid (G < 18446744073709551616) := by show G < _; have := hG.out; omega
  have hN0 := World.new_ne w _ d0
  have K0 : Kept [] w w.drew := (Kept.refl [] w).drew
  have K1 : Kept [] w (w.alloc (.cells #[.int .u64 0, .slice none 0 0] 48)).drew := ((Kept.refl [] w).alloc _).drew
  have hHb := Hid.mk hb
  have hHE := Hid.mk hE
  have hHr := Hid.mk hr
  have hHn := Hid.mk hn
  have hHg := Hid.mk hg
  have hHl : Hid (l.length ≤ 200) := by show l.length ≤ 200; omega
  clear hb hE hr hn hg
  go_enter Try.func12, Try.ntmps12
  go_wp2_with fail
  go_region_held3 (fun w' => w'.cell? ⟨p, 0, none⟩ = some (.int .u64 (r.1 : Int))) (first | exact S0 | exact S1 | go_keep) (first | (go_at_call 21; refine (hcl _ (by first | exact K0 | exact K1)).mono ?_; rintro e w1 ⟨v1, rfl, hO1, k1, f1⟩; have S1 : w1.cell? ⟨p, 0, none⟩ = some (.int .u64 (r.1 : Int)) := (by rw [k1.cell (by simp; omega) (by simp)]; go_keep); obtain ⟨a1, c1, hv1⟩ := hO1.form; rw [hHn.out] at hv1; subst hv1; have N1 := World.new_ne w1 _ S1; try (have B1 : Boxed w1 w.heap.size 0 (.slice none 0 0) := k1.keeps (heap_alloc_new w _) (by simp); obtain ⟨B2, B3⟩ := cell_of_two B1; obtain ⟨B4, B5⟩ := free_of_two B1)))
  all_goals
    first
    | (have U := next_behind (G := G) K0 hO1 k1 f1
       generalize w1.alloc (.cells #[.int .u64 (G : Int), .slice a1 n c1] 48) = w2 at U ⊢
       generalize w1.heap.size = b at U ⊢)
    | (have U := next_ahead (G := G) K1 (Nat.le_refl _) (by simp) B1 hO1 k1 f1
       clear B1 B2 B3 B4 B5
       generalize (w1.setCell ⟨w.heap.size, 0, none⟩ (.int .u64 (G : Int))).setCell ⟨w.heap.size, 1, none⟩ (.slice a1 n c1) = w2 at U ⊢
       generalize hb : w.heap.size = b at U ⊢)
    obtain ⟨uB, uK, ub, uR, uF, uL⟩ := U
    have ub' : w.heap.size ≤ b := by omega
    clear hO1 k1 f1 S1 N1 S0 K0 K1 d0 d1 d2 d3 hcl
    have kd : Kept [] w2 w2.drew := (Kept.refl [] w2).drew
    have uK2 := uK.trans kd (by simp)
    have hD2 := hD.kept uK2 (by simp)
    have hS2 := hS.kept uK2 (by simp) (by simp)
    have uB2 := uB.kept kd (by simp)
    have hbF : b ∉ F := fun hm => by have := hD.lt b hm; omega
    have hv1F : ∀ g, (Value.slice a1 n c1).ownBlock = some g → g ∉ F := fun g hg hm => by have := hD.lt g hm; have := uF g hg; omega
    obtain ⟨x0, x1⟩ := cell_of_two uB
    obtain ⟨e0, e1, e2, e3⟩ := cells4 (hS.kept uK (by simp) (by simp)).box
    have S2 : NextS p q b G (.slice a1 n c1) w2.drew := ⟨(cells4 hS2.box).2.2.1, cell_of_two uB2⟩
    have hput := put_any hD2 S2 (uR.kept kd (by simp)) hHl.out hGl.out hpF hbF hHb.out
    rw [hHE.out, hs'.out] at hput
    unfold NextS at hput S2
    have hpb : p ≠ b := by omega
    clear hD2 uB2 e3 hw1 eG
    go_wp2_with fail
    go_region_held3 (fun w' => w'.cell? ⟨p, 2, none⟩ = some (.pointer (some ⟨q, 0, none⟩)) ∧ w'.cell? ⟨b, 0, none⟩ = some (.int .u64 (G : Int)) ∧ w'.cell? ⟨b, 1, none⟩ = some (.slice a1 n c1)) (first | exact S2 | exact S3 | exact S4 | exact S5) (first | (go_at_call 22; refine hC.mono ?_; rintro e w5 ⟨rfl, S5, hfin⟩) | (go_at_call 24; refine hB.mono ?_; rintro e w4 ⟨v4, rfl, S4, hC⟩) | (go_at_call 23; refine hput.mono ?_; rintro e w3 ⟨rfl, S3, hB⟩))
    obtain ⟨F', hD5, k5, n5⟩ := hfin
    have hS5 := hS2.kept k5 hpF hvF
    have uB5 := (uB.kept kd (by simp)).kept k5 hbF
    have uR5 := (uR.kept kd (by simp)).kept k5 hv1F
    have hpa : (Value.slice a1 n c1).ownBlock ≠ some p := fun e => by have := uF p e; omega
    have hplt5 : p < w2.heap.size := by have := uK.size; omega
    obtain ⟨hS6, k6⟩ := hS5.set (.slice a1 n c1) (G, l) uR5 hpa hGl.out hHl.out (fun g hg => by have := uL g hg; exact Nat.lt_of_lt_of_le this (Nat.le_trans (by simp : w2.heap.size ≤ w2.drew.heap.size) k5.size))
    have hpF' : p ∉ F' := fun hm => by
      rcases n5 p hm with h | h
      · exact hpF h
      · have h' : w2.heap.size ≤ p := h; omega
    have hvF' : ∀ g, (Value.slice a1 n c1).ownBlock = some g → g ∉ F' := fun g hg hm => by
      rcases n5 g hm with h | h
      · exact hv1F g hg h
      · have h' : w2.heap.size ≤ g := h
        have := uL g hg; omega
    have hfin : Hid (∃ F' v', Sys ((w5.setCell ⟨p, 0, none⟩ (.int .u64 (G : Int))).setCell ⟨p, 1, none⟩ (.slice a1 n c1)) F' q s' p v' (G, l) false ∧ Kept (p :: F) w ((w5.setCell ⟨p, 0, none⟩ (.int .u64 (G : Int))).setCell ⟨p, 1, none⟩ (.slice a1 n c1)) ∧ NewF w F F' ∧ Fresh w v') :=
      ⟨F', _, ⟨hD5.kept k6 (fun x hx => by simp; intro e; subst e; exact hpF' hx), hS6, hpF', hvF'⟩, ((uK2.mono (by simp)).trans (k5.mono (fun x hx => .inl (List.mem_cons_of_mem p hx))) (fun x hx => .inl hx)).trans (k6.mono (fun x hx => .inl (by simp at hx; simp [hx]))) (fun x hx => .inl hx), fun x hx => by
        rcases n5 x hx with h | h
        · exact .inl h
        · exact .inr (Nat.le_trans uK2.size h), uF⟩
    obtain ⟨y0, y1, y2, y3⟩ := cells4 hS5.box
    have z0 := free4 hS5.box 0
    have z1 := free4 hS5.box 1
    have uB5' := uB5
    obtain ⟨t0, t1⟩ := cell_of_two uB5'
    unfold Boxed at uB5'
    clear hD5 k5 n5 hS5 uB5 uR5 hS6 k6 hput hB hC S2 S3 S4 S5 hS2 uK2 kd uB uK uR uF uL hD hS x0 x1 e0 e1 e2 hvF' hpF' hv1F hbF
    go_wp2_with fail
    go_ret
    exact ⟨rfl, hfin.out⟩

end Go.Proofs.Ythjdlbejfaejkaa
