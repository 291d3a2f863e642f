import Derived.Test.YthlemapneangeaaQ13
/-
  OutboxSerials: the walk.
-/
namespace Go.Proofs.Ythlemapneangeaa
set_option maxRecDepth 100000
open Go.RowKit
set_option linter.unusedVariables false
/-- The k-th key. -/
def keyA (k : Nat) : List UInt8 := [UInt8.ofNat (97 + k)]
theorem keyA_lt {i j : Nat} (hi : i < 5) (hj : j < 5) (h : keyA i < keyA j) : i < j := by
  unfold keyA at h
  rw [List.cons_lt_cons_iff] at h
  rcases h with h | ⟨-, h⟩
  · rw [UInt8.lt_iff_toNat_lt] at h
    simp at h
    omega
  · exact absurd h (List.not_lt_nil _)
theorem keyA_ne {i j : Nat} (hi : i < 5) (hj : j < 5) (h : i ≠ j) : keyA i ≠ keyA j := fun e => by
  simp [keyA] at e
  have := congrArg UInt8.toNat e
  simp at this
  omega
/-- All keys are among the five. -/
def FiveK (K : List La) : Prop := ∀ y ∈ K, ∃ k, k < 5 ∧ y.k = keyA k
theorem five_le : ∀ {K : List La} {lo : Nat}, Rise K → (∀ y ∈ K, ∃ k, lo ≤ k ∧ k < 5 ∧ y.k = keyA k) → K.length ≤ 5 - lo
  | [], lo, _, _ => by simp
  | y :: K, lo, hr, h => by
    obtain ⟨k, h1, h2, h3⟩ := h y (by simp)
    have hr' := List.pairwise_cons.1 hr
    have ih := five_le (K := K) (lo := k + 1) hr'.2 (fun z hz => by
      obtain ⟨m, g1, g2, g3⟩ := h z (by simp [hz])
      have := hr'.1 z hz
      rw [h3, g3] at this
      have := keyA_lt h2 g2 this
      exact ⟨m, by omega, g2, g3⟩)
    simp
    omega
theorem FiveK.le {K : List La} (h : FiveK K) (hr : Rise K) : K.length ≤ 5 := five_le (lo := 0) hr (fun y hy => by obtain ⟨k, h1, h2⟩ := h y hy; exact ⟨k, by omega, h1, h2⟩)
theorem FiveK.set {K : List La} (h : FiveK K) {k : Nat} (hk : k < 5) (s : Nat) : FiveK (setK K (keyA k) s) := fun y hy => by
  rcases setK_mem hy with rfl | hy
  · exact ⟨k, hk, rfl⟩
  · exact h y hy
/-- The array of five numbers at g. -/
def FiveAt (w : World) (g : Nat) (f : Nat → Nat) : Prop := ∃ cs : Array Value, w.heap[g]? = some (.cells cs 42 (0, 0)) ∧ cs.size = 5 ∧ ∀ k, k < 5 → cs[k]? = some (Uv (f k))
section
variable {w w' : World} {g : Nat} {f : Nat → Nat}
theorem FiveAt.cell (h : FiveAt w g f) {k : Nat} (hk : k < 5) : w.cell? ⟨g, k, none⟩ = some (Uv (f k)) ∧ w.frozen? ⟨g, k, none⟩ = false := by
  obtain ⟨cs, h1, h2, h3⟩ := h
  exact ⟨by simp only [World.cell?, h1]; exact h3 k hk, by simp [World.frozen?, h1]⟩
theorem FiveAt.kept {S : List Nat} (h : FiveAt w g f) (k : Kept S w w') (hS : g ∉ S) : FiveAt w' g f := by
  obtain ⟨cs, h1, h2, h3⟩ := h
  exact ⟨cs, k.keeps h1 hS, h2, h3⟩
theorem FiveAt.set (h : FiveAt w g f) {k : Nat} (hk : k < 5) (s : Nat) : FiveAt (w.setCell ⟨g, k, none⟩ (Uv s)) g (fun i => if i = k then s else f i) := by
  obtain ⟨cs, h1, h2, h3⟩ := h
  refine ⟨_, set_at h1, by simp [h2], fun i hi => ?_⟩
  rw [Array.getElem?_setIfInBounds]
  by_cases e : k = i
  · subst e
    simp [h2, hk]
  · have e' : ¬ i = k := fun h => e h.symm
    simp only [e, e', if_false]
    exact h3 i hi
theorem FiveAt.same {f' : Nat → Nat} (h : FiveAt w g f) (e : ∀ k, k < 5 → f k = f' k) : FiveAt w g f' := by
  obtain ⟨cs, h1, h2, h3⟩ := h
  exact ⟨cs, h1, h2, fun k hk => by rw [← e k hk]; exact h3 k hk⟩
end
section
variable {w : World}
theorem reads_at {a : Option Addr} {n c : Nat} {l : List UInt8} (h : Reads w (.slice a n c) l) {j : Nat} {u : UInt8} (hu : l[j]? = some u) : ∃ b o, a = some ⟨b, o, none⟩ ∧ w.cell? ⟨b, o + j, none⟩ = some (B8 u) := by
  obtain ⟨a', c', e, -, -, -, h5⟩ := h
  injection e with e _ _
  subst e
  obtain ⟨b, o, e, hc⟩ := h5 (fun h0 => by rw [h0] at hu; simp at hu)
  exact ⟨b, o, e, hc j u hu⟩
set_option maxHeartbeats 2000000 in
theorem serials_walk {v : Value} {l : List UInt8} (hr : Reads w v l) (pops : Nat) (hp : pops < 18446744073709551616) : Calls Try.prog 6 #[v, .int .u64 (pops : Int)] w fun e w' => e = .returned (.bool true) ∧ Kept [] w w' := by
  obtain ⟨a, c, rfl, hv1, hv2⟩ : ∃ a c, v = .slice a l.length c ∧ l.length ≤ c ∧ c ≤ 9223372036854775807 := by
    obtain ⟨a, c, h1, h2, h3, -⟩ := hr
    exact ⟨a, c, h1, h2, h3⟩
  have HR := Hid.mk hr
  clear hr
  generalize hn : l.length = n at *
  have HN := Hid.mk hn
  clear hn
  go_enter Try.func6, Try.ntmps6
  go_wp2_with fail
  refine awake9.mono ?_
  rintro e w1 ⟨rfl, k1⟩
  by_cases h100 : 100 < n
  · have h100I : (100 : Int) < (n : Int) := by omega
    go_wp2_with fail
    refine awake9.mono ?_
    rintro e w3 ⟨rfl, k3⟩
    go_wp2_with fail
    go_ret
    exact ⟨rfl, k1.trans k3 (by simp)⟩
  · have h100I : ((100 : Int) < (n : Int)) = False := eq_false (by omega)
    go_wp2_with fail
    refine (one_new (w0 := w) [109, 101] rfl k1.size).mono ?_
    rintro e w2 ⟨p, rfl, T2, k2⟩
    have k02 := k1.trans k2 (by simp)
    have HT2 := Hid.mk T2
    have HK2 := Hid.mk k02
    clear T2 k02 k1 k2
    go_wp2_with fail
    obtain ⟨W3, e3, k3, hz3, hb3⟩ := box1 w2 (.cells #[.int .u64 0, .int .u64 0, .int .u64 0, .int .u64 0, .int .u64 0] 42)
    rw [e3]
    clear e3
    have F3 : Hid (FiveAt W3 w2.heap.size (fun _ => 0)) := ⟨_, hb3, rfl, fun k hk => by
      match k, hk with
      | 0, _ => rfl
      | 1, _ => rfl
      | 2, _ => rfl
      | 3, _ => rfl
      | 4, _ => rfl
      | k + 5, h => omega⟩
    have hpg : p ≠ w2.heap.size := by obtain ⟨cs, hb⟩ := HT2.out.bx; have := lt_of_block hb; omega
    have hgw : w.heap.size ≤ w2.heap.size := HK2.out.size
    generalize w2.heap.size = g at *
    have T3 := Hid.mk (HT2.out.kept0 k3)
    have K3 := Hid.mk (HK2.out.trans k3 (by simp))
    clear HT2 HK2 k3 hb3 hz3
    go_loopw [27] (fun i wr => ∃ j : Nat, i = .int .i64 (j : Int) ∧ j ≤ n ∧ Hid (∃ o, One w wr p o j ∧ FiveK o.K ∧ FiveAt wr g (fun k => ser o.K (keyA k))) ∧ Hid (Kept [] w wr)) (fun i _ => n - (intOf i).toNat)
    case atStart => exact ⟨0, rfl, by omega, Hid.mk ⟨_, T3.out, fun y hy => by simp at hy, F3.out.same (fun k hk => by simp [ser])⟩, K3⟩
    case round =>
      obtain ⟨j, rfl, hj, ht, kk⟩ := hrel
      obtain ⟨o, T, hfive, hat⟩ := ht.out
      by_cases hlt : j < n
      · have hjI : (j : Int) < (n : Int) := by omega
        have hj0 : (0 : Int) ≤ (j : Int) := by omega
        obtain ⟨u, hu⟩ : ∃ u, l[j]? = some u := ⟨_, List.getElem?_eq_getElem (by have := HN.out; omega)⟩
        obtain ⟨b, o1, rfl, hcell⟩ : ∃ b o, a = some ⟨b, o, none⟩ ∧ wr.cell? ⟨b, o + j, none⟩ = some (.int .u8 (u.toNat : Int)) := reads_at (HR.out.kept kk.out (by simp)) hu
        have hu256 : u.toNat < 256 := u.toNat_lt
        obtain ⟨k, hk, hk5⟩ : ∃ k : Nat, ((u.toNat : Int) % 5) = (k : Int) ∧ k < 5 := ⟨u.toNat % 5, by omega, by omega⟩
        have HT := Hid.mk T
        have HFV := Hid.mk hfive
        have HAT := Hid.mk hat
        clear T hfive hat ht hu
        have HSTR : Hid (∀ W : World, (convert 34 9 (.slice (some ⟨W.heap.size, 0, none⟩) 1 1)).run Try.prog (W.alloc (.cells #[.int .u8 (97 + (k : Int))] 5)) = .ok (Sv (keyA k)) (W.alloc (.cells #[.int .u8 (97 + (k : Int))] 5))) := fun W => by
          have := str1 W (UInt8.ofNat (97 + k))
          have e : ((UInt8.ofNat (97 + k)).toNat : Int) = 97 + (k : Int) := by simp; omega
          rw [e] at this
          exact this
        obtain ⟨W4, e4, k4, -, -⟩ := box1 wr (.cells #[.int .u8 (97 + (k : Int))] 5)
        have hs : (convert 34 9 (.slice (some ⟨wr.heap.size, 0, none⟩) 1 1)).run Try.prog W4 = .ok (Sv (keyA k)) W4 := by rw [← e4]; exact HSTR.out wr
        have kI : (k : Int) < 5 := by omega
        have kI0 : (0 : Int) ≤ (k : Int) := by omega
        have A4 : Hid (∃ o, One w W4 p o j ∧ FiveK o.K ∧ FiveAt W4 g (fun k => ser o.K (keyA k))) := ⟨o, HT.out.kept0 k4, HFV.out, HAT.out.kept k4 (by simp)⟩
        have K4 : Hid (Kept [] w W4) := kk.out.trans k4 (by simp)
        clear k4
        go_wp2_with fail
        all_goals first | (refine (one_pop HT.out).mono ?_; go_must (clear hs e4 A4 K4 W4; rintro e w3 ⟨to, x, bo, a, c3, rfl, T3, k3⟩; obtain ⟨W4, e4, k4, -, -⟩ := box1 w3 (.cells #[.int .u8 (97 + (k : Int))] 5); have hs : (convert 34 9 (.slice (some ⟨w3.heap.size, 0, none⟩) 1 1)).run Try.prog W4 = .ok (Sv (keyA k)) W4 := (by rw [← e4]; exact HSTR.out w3); have A4 : Hid (∃ o, One w W4 p o j ∧ FiveK o.K ∧ FiveAt W4 g (fun k => ser o.K (keyA k))) := ⟨popO o, T3.kept0 k4, HFV.out, (HAT.out.kept k3 (by simp; exact fun e => hpg e.symm)).kept k4 (by simp)⟩; have K4 : Hid (Kept [] w W4) := (kk.out.trans k3 (fun x hx => .inr (by simp at hx; subst hx; exact T3.hp))).trans k4 (by simp); clear k4 T3 k3; go_wp2_with fail)) | skip
        all_goals
          obtain ⟨o4, T4, V4, F4⟩ := A4.out
          have g4 := T4.good
          refine (one_send T4 (keyA k) rfl (by omega)).mono ?_
          rintro e w5 (⟨hfu, rfl, T5, k5⟩ | ⟨hfu, rfl, T5, k5⟩)
          · have h32 : o4.L.length = 32 := by
              rcases hfu with h | h
              · exact h
              · have := V4.le g4.rise; omega
            have HR5 : Hid (∃ o, One w w5 p o (j + 1) ∧ FiveK o.K ∧ FiveAt w5 g (fun k => ser o.K (keyA k))) := ⟨o4, T5.mono (by omega), V4, F4.kept k5 (by simp; exact fun e => hpg e.symm)⟩
            have HK5 : Hid (Kept [] w w5) := K4.out.trans k5 (fun x hx => .inr (by simp at hx; subst hx; exact T4.hp))
            have HA5 := Hid.mk (one_all T5)
            rw [h32] at HA5
            clear hfu T5 k5 T4 V4 F4 A4 K4 g4 h32 hs e4
            go_wp2_with fail
            refine HA5.out.mono ?_
            rintro e w6 ⟨a6, c6, rfl, k6⟩
            go_wp2_with fail
            go_roundw
            case rel =>
              refine ⟨j + 1, by go_num, by omega, Hid.mk ?_, Hid.mk (HK5.out.trans k6 (by simp))⟩
              obtain ⟨o5, T5, V5, F5⟩ := HR5.out
              exact ⟨o5, T5.kept0 k6, V5, F5.kept k6 (by simp)⟩
            case measure => simp [intOf]; omega
          · have F5 := F4.kept k5 (by simp; exact fun e => hpg e.symm)
            obtain ⟨c5, f5⟩ := F5.cell hk5
            have hsl := T4.serLe (keyA k)
            obtain ⟨s1, hs1⟩ : ∃ s1, ser o4.K (keyA k) + 1 = s1 := ⟨_, rfl⟩
            rw [hs1]
            have hsI : (ser o4.K (keyA k) : Int) + 1 = (s1 : Int) := by rw [← hs1]; rfl
            have HB6 : Hid (One w (w5.setCell ⟨g, k, none⟩ (Uv s1)) p (sendO o4 (keyA k) 0 []) (j + 1) ∧ FiveK (sendO o4 (keyA k) 0 []).K ∧ FiveAt (w5.setCell ⟨g, k, none⟩ (Uv s1)) g (fun i => ser (sendO o4 (keyA k) 0 []).K (keyA i)) ∧ Kept [] w (w5.setCell ⟨g, k, none⟩ (Uv s1))) := by
              have kg := (Kept.refl [g] w5).setCell (p := ⟨g, k, none⟩) (.inl (by simp)) (Uv s1)
              refine ⟨T5.kept kg (fun x hx => ?_), V4.set hk5 _, (F5.set hk5 s1).same (fun i hi => ?_), ?_⟩
              · simp at hx
                subst hx
                obtain ⟨cs, hb, -⟩ := F5
                exact ⟨fun e => hpg e.symm, cs, 42, hb, by decide⟩
              · show (if i = k then s1 else ser o4.K (keyA i)) = ser (setK o4.K (keyA k) (ser o4.K (keyA k) + 1)) (keyA i)
                by_cases e : i = k
                · subst e
                  rw [if_pos rfl, (ser_set_same _ _ _).1, hs1]
                · rw [if_neg e, (ser_set_other _ g4.rise (keyA_ne hi hk5 e)).1]
              · exact (K4.out.trans k5 (fun x hx => .inr (by simp at hx; subst hx; exact T4.hp))).trans kg (fun x hx => .inr (by simp at hx; subst hx; exact hgw))
            have c6 : (w5.setCell ⟨g, k, none⟩ (Uv s1)).cell? ⟨g, k, none⟩ = some (Uv s1) := World.cell?_setCell_same _ _ _ c5
            have hsb : (ser o4.K (keyA k) : Int) < 1000 := by omega
            have HO4 : Hid (∃ o6, sendO o4 (keyA k) 0 [] = o6) := ⟨_, rfl⟩
            obtain ⟨o6, ho6⟩ := HO4.out
            rw [ho6] at HB6
            clear hfu T5 k5 T4 V4 F4 A4 K4 g4 hs e4 F5 hsl hs1 HO4 ho6
            generalize ser o4.K (keyA k) = sv at *
            go_wp2_with fail
            obtain ⟨B1, B2, B3, B4⟩ := HB6.out
            go_roundw
            case rel => exact ⟨j + 1, by go_num, by omega, Hid.mk ⟨o6, B1, B2, B3⟩, Hid.mk B4⟩
            case measure => simp [intOf]; omega
      · have HT := Hid.mk T
        have HAT := Hid.mk hat
        clear T hat ht hfive
        go_wp2_with fail
        go_loopw [86] (fun i ws => ∃ i' : Nat, i = .int .i64 (i' : Int) ∧ i' ≤ 5 ∧ Hid (One w ws p o j ∧ FiveAt ws g (fun k => ser o.K (keyA k)) ∧ Kept [] w ws)) (fun i _ => 5 - (intOf i).toNat)
        case atStart => exact ⟨0, rfl, by omega, Hid.mk ⟨HT.out, HAT.out, kk.out⟩⟩
        case round =>
          clear HT HAT kk
          obtain ⟨i, rfl, hi, hk⟩ := hrel
          by_cases hi5 : i < 5
          · have hiI : (i : Int) < 5 := by omega
            have hi0 : (0 : Int) ≤ (i : Int) := by omega
            have hw1 : IntKind.i64.wrap (97 + (i : Int)) = 97 + (i : Int) := by rw [IntKind.wrap_i64]; omega
            have hw2 : IntKind.u8.wrap (97 + (i : Int)) = 97 + (i : Int) := by rw [IntKind.wrap_u8]; omega
            have hs : (convert 34 9 (.slice (some ⟨wr.heap.size, 0, none⟩) 1 1)).run Try.prog (wr.alloc (.cells #[.int .u8 (97 + (i : Int))] 5)).drew = .ok (Sv (keyA i)) (wr.alloc (.cells #[.int .u8 (97 + (i : Int))] 5)).drew := by
              have := str1 wr.drew (UInt8.ofNat (97 + i))
              have e : ((UInt8.ofNat (97 + i)).toNat : Int) = 97 + (i : Int) := by simp; omega
              rw [e] at this
              exact this
            have k4 : Kept [] wr (wr.alloc (.cells #[.int .u8 (97 + (i : Int))] 5)).drew := ((Kept.refl [] wr).alloc _).drew
            have T4 := hk.out.1.kept0 k4
            have F4 := hk.out.2.1.kept k4 (by simp)
            have HS : Hid (∀ W, Kept [] (wr.alloc (.cells #[.int .u8 (97 + (i : Int))] 5)).drew W → W.cell? ⟨g, i, none⟩ = some (Uv (ser o.K (keyA i)))) := fun W k => ((F4.kept k (by simp)).cell hi5).1
            have Sa : wr.drew.cell? ⟨g, i, none⟩ = some (Uv (ser o.K (keyA i))) := (hk.out.2.1.cell hi5).1
            have S0 := HS.out _ (Kept.refl [] _)
            have H22 := Hid.mk (one_ser T4 (keyA i))
            have HK4 := Hid.mk k4
            clear T4 F4 k4
            generalize ser o.K (keyA i) = sv at *
            go_wp2_with fail
            go_region_held (fun W => W.cell? ⟨g, i, none⟩ = some (Uv sv)) (first | with_reducible exact Sa | with_reducible exact S0 | with_reducible exact S1) (first | (go_at_call 22; refine H22.out.mono ?_; rintro e V8 ⟨rfl, k8⟩; have S1 := HS.out _ k8))
            have HR : Hid (One w V8 p o j ∧ FiveAt V8 g (fun k => ser o.K (keyA k)) ∧ Kept [] w V8) := by
              have kw := HK4.out.trans k8 (by simp)
              exact ⟨hk.out.1.kept0 kw, hk.out.2.1.kept kw (by simp), hk.out.2.2.trans kw (by simp)⟩
            clear S0 Sa S1 HS H22 hs HK4 k8 hk
            go_wp2_with fail
            go_roundw
            case rel => exact ⟨i + 1, by go_num, by omega, HR⟩
            case measure => simp [intOf]; omega
          · go_wp2_with fail
            go_ret
            exact ⟨rfl, hk.out.2.2⟩
end
end Go.Proofs.Ythlemapneangeaa
