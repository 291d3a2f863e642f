import Derived.Test.YtibapmjgpnldgaaGreatDoorQ06
import Derived.Test.YtibapmjgpnldgaaGreatDoorQ07
import Derived.Test.YtibapmjgpnldgaaGreatDoorQ14
import Derived.Test.YtibapmjgpnldgaaGreatDoorQ18
import Derived.Test.YtibapmjgpnldgaaGreatDoorQ19
/-
  Encode of a program.
-/
namespace Go.Proofs.YtibapmjgpnldgaaGreatDoor
set_option maxRecDepth 100000
open Go.RowKit
set_option linter.unusedVariables false
/-- A Writer at q with the row v, made since w0. -/
def Wq (w0 w : World) (q : Nat) (v : Value) (l : List UInt8) : Prop := IsW 88 5 w q v l ∧ w0.heap.size ≤ q ∧ Fresh w0 v ∧ Kept [] w0 w
section
variable {w0 w w' : World} {p q : Nat} {v : Value} {l : List UInt8}
theorem Wq.kept0 (h : Wq w0 w q v l) (k : Kept [] w w') : Wq w0 w' q v l := ⟨h.1.kept k (by simp) (by simp), h.2.1, h.2.2.1, h.2.2.2.trans k (by simp)⟩
theorem owns_ne {e : TypeId} (h : Owns e w v l) {g : Nat} {cs : Array Value} {t : TypeId} {fz : Nat × Nat} (hg : w.heap[g]? = some (.cells cs t fz)) (ht : t ≠ e) : v.ownBlock ≠ some g := fun hv => by
  rcases h.2 with ⟨rfl, _⟩ | ⟨g1, cap, cur, rfl, _, hb, _⟩
  · simp [Value.ownBlock] at hv
  · simp [Value.ownBlock] at hv
    subst hv
    rw [hg] at hb
    injection hb with hb
    injection hb with _ e
    exact ht e
theorem blk_ne {w : World} {a b : Nat} {cs cs' : Array Value} {t t' : TypeId} {fz fz' : Nat × Nat} (h : w.heap[a]? = some (.cells cs t fz)) (h' : w.heap[b]? = some (.cells cs' t' fz')) (ht : t ≠ t') : a ≠ b := fun e => by
  subst e
  rw [h] at h'
  injection h' with h'
  injection h' with _ e
  exact ht e
theorem Wq.notin (h : Wq w0 w q v l) {g : Nat} {cs : Array Value} {t : TypeId} (hg : w.heap[g]? = some (.cells cs t (0, 0))) (ht : t ≠ 88 ∧ t ≠ 5) : g ∉ foot q v := fun hm => by
  rcases mem_foot.1 hm with e | e
  · exact blk_ne hg h.1.box ht.1 e
  · exact owns_ne h.1.own hg ht.2 e
theorem Wq.laid (h : Wq w0 w q v l) {l' : List UInt8} (L : Laid 88 5 w q v l' w') : ∃ v', Wq w0 w' q v' l' ∧ Kept (foot q v) w w' := by
  obtain ⟨v', i1, i2, i3⟩ := L
  refine ⟨v', ⟨i1, h.2.1, fun g hg => ?_, h.2.2.2.trans i2 (fun x hx => ?_)⟩, i2⟩
  · rcases i3 g hg with h' | h'
    · exact h.2.2.1 g h'
    · have := h.2.2.2.size; omega
  · rcases mem_foot.1 hx with rfl | h'
    · exact .inr h.2.1
    · exact .inr (h.2.2.1 x h')
theorem wq_num (h : Wq w0 w q v l) {n : Nat} (hn : U64 n) (hb : l.length ≤ 1000000) : Calls Tryz.prog 17 #[.pointer (some ⟨q, 0, none⟩), .int .u64 (n : Int)] w fun e w' => e = .returned (.tuple #[]) ∧ ∃ v', Wq w0 w' q v' (l ++ enc n) ∧ Kept (foot q v) w w' := by
  refine (wnum_any q v l n w h.1 hn (by omega)).mono ?_
  rintro e w' ⟨rfl, L⟩
  exact ⟨rfl, h.laid L⟩
theorem wq_int (h : Wq w0 w q v l) {z : Int} (hz : I64 z) (hb : l.length ≤ 1000000) : Calls Tryz.prog 19 #[.pointer (some ⟨q, 0, none⟩), .int .i64 z] w fun e w' => e = .returned (.tuple #[]) ∧ ∃ v', Wq w0 w' q v' (l ++ enc (fold z)) ∧ Kept (foot q v) w w' := by
  refine (wint_any q v l z w h.1 hz.1 hz.2 (by omega)).mono ?_
  rintro e w' ⟨rfl, L⟩
  exact ⟨rfl, h.laid L⟩
theorem wq_text (h : Wq w0 w q v l) (s : List UInt8) (hs : s.length ≤ 1000000) (hb : l.length ≤ 1000000) : Calls Tryz.prog 18 #[.pointer (some ⟨q, 0, none⟩), .string ⟨s.toArray⟩] w fun e w' => e = .returned (.tuple #[]) ∧ ∃ v', Wq w0 w' q v' (l ++ encTx s) ∧ Kept (foot q v) w w' := by
  have hz : (⟨s.toArray⟩ : ByteArray).size = s.length := by simp [ByteArray.size]
  refine (wtext_any q v l ⟨s.toArray⟩ w h.1 (by omega)).mono ?_
  rintro e w' ⟨rfl, L⟩
  rw [hz] at L
  have e1 : l ++ enc s.length ++ (⟨s.toArray⟩ : ByteArray).data.toList = l ++ encTx s := by simp [encTx]
  rw [e1] at L
  exact ⟨rfl, h.laid L⟩
theorem newW (w : World) : Calls Tryz.prog 16 #[] w fun e w' => ∃ p, e = .returned (.pointer (some ⟨p, 0, none⟩)) ∧ IsW 88 5 w' p (.slice none 0 0) [] ∧ Kept [] w w' ∧ w.heap.size ≤ p := by
  refine (new_w w).mono ?_
  rintro e w' ⟨rfl, rfl⟩
  exact ⟨_, rfl, new_isW w, (Kept.refl [] w).alloc _, Nat.le_refl _⟩
end
/-- What Encode answers and leaves. -/
def EncAt (w : World) (p : Pg) (e : Ending) (w' : World) : Prop :=
  (formedP p = false ∧ e = .returned (.tuple #[.slice none 0 0, .int .i64 1]) ∧ Kept [] w w') ∨ (formedP p = true ∧ ∃ v, e = .returned (.tuple #[v, .int .i64 0]) ∧ Owns 5 w' v (encPg p) ∧ Kept [] w w' ∧ Fresh w v)
section
variable {w : World}
set_option maxHeartbeats 2000000 in
theorem encode20 {v u : Value} {p : Pg} (hP : IsP w v u p) (hG : Glob w) (hK : ∀ s ∈ p.names, s.length ≤ 9223372036854775807) (hO : OkP p) : Calls Tryz.prog 8 #[.agg #[v, u]] w fun e w' => EncAt w p e w' := by
  obtain ⟨a, c, b, d, rfl, rfl, hl1, hl2⟩ := hP.form
  obtain ⟨W0, e0, k0, hz0, hb0⟩ := box1 w (.cells #[.slice a p.names.length c, .slice b p.code.length d] 33)
  have HF := Hid.mk (formed13 (hP.keep k0) hK (hG.kept k0))
  obtain ⟨y0, y1⟩ := cells2 hb0
  have HK0 := Hid.mk k0
  have HB0 := Hid.mk hb0
  have HP := Hid.mk (hP.keep k0)
  clear k0 hb0 hz0 hP hG
  cases hf : formedP p with
  | false =>
    rw [hf] at HF
    have HR : Hid (∀ W, Kept [] w W → EncAt w p (.returned (.tuple #[.slice none 0 0, .int .i64 1])) W) := fun W k => .inl ⟨hf, rfl, k⟩
    generalize EncAt w p = R at HR ⊢
    clear hf
    go_enter Tryz.func8, Tryz.ntmps8
    go_wp2_with fail
    refine HF.out.mono ?_
    rintro e w1 ⟨rfl, k1⟩
    go_wp2_with fail
    exact HR.out _ (HK0.out.then k1)
  | true =>
    rw [hf] at HF
    obtain ⟨n1, n2, n3, n4⟩ := formed_parts hf
    have HR : Hid (∀ W v', Owns 5 W v' (encPg p) → Kept [] w W → Fresh w v' → EncAt w p (.returned (.tuple #[v', .int .i64 0])) W) := fun W v' h1 h2 h3 => .inr ⟨hf, v', rfl, h1, h2, h3⟩
    generalize EncAt w p = R at HR ⊢
    have HN3 := Hid.mk n3
    have HN4 : Hid (∀ x ∈ p.code, okI p.names.length p.code.length x = true ∧ I64 x.arg) := fun x hx => ⟨n4 x hx, hO x hx⟩
    have hlN := encN_length n3
    have e1 := enc_length p.names.length
    have e2 := enc_length p.code.length
    clear hf n3 n4 hK hO
    go_enter Tryz.func8, Tryz.ntmps8
    go_wp2_with fail
    refine HF.out.mono ?_
    rintro e w1 ⟨rfl, k1⟩
    have HKa := Hid.mk (HK0.out.then k1)
    have HPa := Hid.mk (HP.out.keep k1)
    have HB1 := Hid.mk (k1.keeps HB0.out (by simp))
    clear k1 y0 y1 HF HP HB0 HK0
    go_wp2_with fail
    refine (newW _).mono ?_
    rintro e w2 ⟨q, rfl, hW2, k2, hq2⟩
    have W2 : Wq w1 w2 q (.slice none 0 0) [] := ⟨hW2, hq2, fresh_nil _ _, k2⟩
    obtain ⟨y0, y1⟩ := cells2 (k2.keeps HB1.out (by simp))
    have H3 := Hid.mk (wq_num W2 (n := p.names.length) (by unfold U64; omega) (by simp))
    have g0 : IntKind.u64.wrap (p.names.length : Int) = (p.names.length : Int) := by rw [IntKind.wrap_u64]; omega
    have g1 : (0 : Int) ≤ (p.names.length : Int) := by omega
    clear W2 hW2 k2 hq2
    go_wp2_with fail
    refine H3.out.mono ?_
    rintro e w4 ⟨rfl, v4, W4, -⟩
    obtain ⟨y0, y1⟩ := cells2 (W4.2.2.2.keeps HB1.out (by simp))
    rw [List.nil_append] at W4
    have HW4 := Hid.mk W4
    clear W4 H3
    generalize hB : enc p.names.length = B1 at *
    have HBx := Hid.mk hB
    clear hB
    go_wp2_with fail
    go_loopw [22] (fun i wr => ∃ j : Nat, i = .int .i64 (j : Int) ∧ j ≤ p.names.length ∧ Hid (∃ v, Wq w1 wr q v (B1 ++ encN (p.names.take j)))) (fun i _ => p.names.length - (intOf i).toNat)
    case atStart => exact ⟨0, rfl, by omega, Hid.mk ⟨v4, by simpa [encN] using HW4.out⟩⟩
    case round =>
      obtain ⟨j, rfl, hj, hH⟩ := hrel
      obtain ⟨v6, W6⟩ := hH.out
      have hlK := encN_length (l := p.names.take j) (fun k hk => HN3.out k (List.mem_of_mem_take hk))
      rw [List.length_take] at hlK
      by_cases hlt : j < p.names.length
      · obtain ⟨b1, o1, rfl, hc1⟩ := names_at (HPa.out.names.keep W6.2.2.2) hlt
        have hjI : (j : Int) < (p.names.length : Int) := by omega
        have hj0 : (0 : Int) ≤ (j : Int) := by omega
        have hk := (isKey_iff _).1 (HN3.out p.names[j] (List.getElem_mem hlt))
        have H8 := Hid.mk (wq_text W6 p.names[j] (by omega) (by rw [List.length_append]; omega))
        have HE := Hid.mk (encN_take hlt)
        clear hH W6 hk hlK
        generalize p.names[j] = nm at *
        go_wp2_with fail
        refine H8.out.mono ?_
        rintro e w8 ⟨rfl, v8, W8, -⟩
        have HW8 : Hid (∃ v, Wq w1 w8 q v (B1 ++ encN (p.names.take (j + 1)))) := ⟨v8, by rw [HE.out, ← List.append_assoc]; exact W8⟩
        clear H8 W8
        go_wp2_with fail
        go_roundw
        case rel => exact ⟨j + 1, by go_num, by omega, HW8⟩
        case measure => simp [intOf]; omega
      · have hje : ¬ (j : Int) < (p.names.length : Int) := by omega
        obtain rfl : j = p.names.length := by omega
        rw [List.take_length] at W6 hlK
        obtain ⟨z0, z1⟩ := cells2 (W6.2.2.2.keeps HB1.out (by simp))
        have g2 : IntKind.u64.wrap (p.code.length : Int) = (p.code.length : Int) := by rw [IntKind.wrap_u64]; omega
        have g3 : (0 : Int) ≤ (p.code.length : Int) := by omega
        have H8 := Hid.mk (wq_num W6 (n := p.code.length) (by unfold U64; omega) (by rw [List.length_append]; omega))
        clear hH W6
        go_wp2_with fail
        refine H8.out.mono ?_
        rintro e w8 ⟨rfl, v8, W8, -⟩
        obtain ⟨z2, z3⟩ := cells2 (W8.2.2.2.keeps HB1.out (by simp))
        have HW8 := Hid.mk W8
        have hX1 : (B1 ++ encN p.names ++ enc p.code.length).length ≤ 1000 := by rw [List.length_append, List.length_append]; omega
        generalize hX : B1 ++ encN p.names ++ enc p.code.length = X at *
        have HX := Hid.mk hX
        clear hX W8 H8
        go_wp2_with fail
        go_loopw [39] (fun i wr => ∃ j : Nat, i = .int .i64 (j : Int) ∧ j ≤ p.code.length ∧ Hid (∃ v, Wq w1 wr q v (X ++ encX (p.code.take j)))) (fun i _ => p.code.length - (intOf i).toNat)
        case atStart => exact ⟨0, rfl, by omega, Hid.mk ⟨v8, by simpa [encX] using HW8.out⟩⟩
        case round =>
          obtain ⟨k, rfl, hk2, hH⟩ := hrel
          obtain ⟨v10, W10⟩ := hH.out
          have hlK2 := encX_length (p.code.take k)
          rw [List.length_take] at hlK2
          by_cases hlt2 : k < p.code.length
          · obtain ⟨b1, o1, rfl, hc1, hc2⟩ := code_at (HPa.out.code.keep W10.2.2.2) hlt2
            have hkI2 : (k : Int) < (p.code.length : Int) := by omega
            have hk0 : (0 : Int) ≤ (k : Int) := by omega
            obtain ⟨q1, q2⟩ := HN4.out p.code[k] (List.getElem_mem hlt2)
            obtain ⟨i, s, kk, o3, o4, -⟩ := okI_some q1
            have hi24 : i < 24 := (List.getElem?_eq_some_iff.1 o4).1
            obtain ⟨W11, e11, k11, hz11, hb11⟩ := box1 wr (.cells #[.int .i64 p.code[k].op, .int .i64 p.code[k].arg] 45)
            have hnat : p.code[k].op.toNat = i := by rw [o3]; simp
            have HE := Hid.mk (encX_take hlt2)
            rw [hnat] at HE
            rw [o3] at hc1 hb11 e11
            have H12 := Hid.mk (wq_num (W10.kept0 k11) (n := i) (by unfold U64; omega) (by rw [List.length_append]; omega))
            have HB11 : Hid (wr.heap.size ∉ foot q v10) := (W10.kept0 k11).notin hb11 (by decide)
            obtain ⟨t0, t1⟩ := cells2 hb11
            have HBX := Hid.mk hb11
            have u1 := enc_length i
            have hXl : (X ++ encX (p.code.take k)).length ≤ 5000 := by rw [List.length_append]; omega
            have g4 : IntKind.u64.wrap (i : Int) = (i : Int) := by rw [IntKind.wrap_u64]; omega
            have g5 : (0 : Int) ≤ (i : Int) := by omega
            have HQ2 := Hid.mk q2
            clear hH W10 k11 hz11 hb11 o3 o4 q1 hnat q2
            generalize p.code[k].arg = r2 at *
            go_wp2_with fail
            refine H12.out.mono ?_
            rintro e w12 ⟨rfl, v12, W12, k12⟩
            have hb12 := k12.keeps HBX.out HB11.out
            obtain ⟨-, c12⟩ := cells2 hb12
            have H13 := Hid.mk (wq_int W12 HQ2.out (by rw [List.length_append]; omega))
            clear W12 k12 hb12 H12 HBX HB11 t0 t1
            go_wp2_with fail
            refine H13.out.mono ?_
            rintro e w13 ⟨rfl, v13, W13, -⟩
            have HW13 : Hid (∃ v, Wq w1 w13 q v (X ++ encX (p.code.take (k + 1)))) := ⟨v13, by rw [HE.out]; simpa [List.append_assoc] using W13⟩
            clear W13 H13 c12
            go_wp2_with fail
            go_roundw
            case rel => exact ⟨k + 1, by go_num, by omega, HW13⟩
            case measure => simp [intOf]; omega
          · have hke : ¬ (k : Int) < (p.code.length : Int) := by omega
            obtain rfl : k = p.code.length := by omega
            rw [List.take_length] at W10 hlK2
            have HBt := Hid.mk (wbytes_any q v10 _ wr W10.1 (by rw [List.length_append]; omega))
            have HKr := Hid.mk W10.2.2.2
            have HEq : Hid (X ++ encX p.code = encPg p) := by
              show _ = _
              rw [← HX.out, ← HBx.out]
              unfold encPg
              simp [List.append_assoc]
            rw [HEq.out] at HBt
            clear W10 hH HEq
            go_wp2_with fail
            refine HBt.out.mono ?_
            rintro e w13 ⟨v13, rfl, hO13, k13, hf13⟩
            have HH := Hid.mk (HR.out w13 v13 hO13 ((HKa.out.then HKr.out).then k13) (fun g hg => by
              have := hf13 g hg
              have := HKr.out.size
              have := HKa.out.size
              omega))
            clear hO13 k13 hf13
            go_wp2_with fail
            exact HH.out
end
end Go.Proofs.YtibapmjgpnldgaaGreatDoor
