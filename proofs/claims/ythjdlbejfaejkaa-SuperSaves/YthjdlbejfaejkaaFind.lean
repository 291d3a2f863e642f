/-
  recordIn: the record that lies in a block.
-/
import Derived.Test.YthjdlbejfaejkaaBlk
import Derived.Laws.Rows
namespace Go.Proofs.Ythjdlbejfaejkaa
open Go.RowKit
set_option linter.unusedVariables false

theorem Hid.mk {P : Prop} (h : P) : Hid P := h
theorem bytes_of (w : World) (l : List UInt8) (hl : l.length ≤ maxLen) : ∃ cap w', (convert 9 32 (.string ⟨l.toArray⟩)).run Try.prog w = .ok (.slice (some ⟨w.heap.size, 0, none⟩) l.length cap) w' ∧ Reads w' (.slice (some ⟨w.heap.size, 0, none⟩) l.length cap) l ∧ Kept [] w w' ∧ w.heap.size < w'.heap.size := by
  have hsz : (⟨l.toArray⟩ : ByteArray).size = l.length := by simp [ByteArray.size]
  have hrun := run_bytes_of_string (P := Try.prog) w 9 32 5 ⟨l.toArray⟩ Try.underlying9 Try.underlying32 Try.underlying5
  rw [hsz] at hrun
  refine ⟨_, _, hrun, ⟨_, _, rfl, grownCap_ge w _ _ _, grownCap_le_maxLen w _ _ _ hl, by simp, fun _ => ⟨w.heap.size, 0, rfl, fun j u hu => ?_⟩⟩, ((Kept.refl [] w).drew).alloc _, by simp⟩
  rw [Nat.zero_add, cell_of_row _ w.heap.size j _ 5 _ (heap_alloc_new w.drew _)]
  have hj : j < l.length := (List.getElem?_eq_some_iff.1 hu).1
  unfold bytesRow
  rw [Array.getElem?_append_left (by simpa using hj)]
  simp [hu, B8]
theorem rnum_len (l : List UInt8) (b : Bool) : (rnum l b).2.1.length ≤ l.length := by
  unfold rnum; split <;> simp
theorem rtext_len (l : List UInt8) (b : Bool) : (rtext l b).1.length ≤ l.length := by
  have h := rnum_len l b
  unfold rtext
  split
  · simp
  · simp; omega
theorem payload_len (B : List UInt8) (h : (B[13]?.getD 0).toNat ≤ 242) : (payloadOf B).length ≤ 242 := by
  unfold payloadOf; rw [List.length_take]; omega
theorem size48 : (Try.prog.info? 48).map (·.size) = some 2 := by kernel_rfl
theorem Boxed.set {w : World} {b g : Nat} {v : Value} (h : Boxed w b g v) (g' : Nat) (v' : Value) : Boxed ((w.setCell ⟨b, 0, none⟩ (.int .u64 (g' : Int))).setCell ⟨b, 1, none⟩ v') b g' v' ∧ Kept [b] w ((w.setCell ⟨b, 0, none⟩ (.int .u64 (g' : Int))).setCell ⟨b, 1, none⟩ v') :=
  ⟨two_set1 (two_set0 h), ((Kept.refl [b] w).setCell (.inl (by simp)) _).setCell (.inl (by simp)) _⟩
/-- What recordIn answers. -/
def FoundAt (place : Nat) (B : List UInt8) (w : World) (e : Ending) (w' : World) : Prop :=
  ∃ g v' l, e = .returned (.agg #[.int .u64 ((g : Nat) : Int), v']) ∧ Reads w' v' l ∧ Kept [] w w' ∧ Fresh w v' ∧ (∀ x, v'.ownBlock = some x → x < w'.heap.size) ∧ Found place B (g, l)

set_option maxRecDepth 100000 in
set_option maxHeartbeats 400000 in
theorem find_no (place : Nat) (v : Value) (B : List UInt8) (w : World) (hp : place < 2) (hr : Reads w v B) (hF : ¬ Fits 1 place B) :
    Calls Try.prog 20 #[.int .i64 (place : Int), v] w fun e w' => FoundAt place B w e w' := by
  have hcv : IntKind.u32.wrap (place : Int) = (place : Int) := by rw [IntKind.wrap_u32]; omega
  have k0 := (Kept.refl [] w).alloc (.cells #[.int .u64 0, .slice none 0 0] 48)
  have hb : Boxed (w.alloc (.cells #[.int .u64 0, .slice none 0 0] 48)) w.heap.size 0 (.slice none 0 0) := heap_alloc_new w _
  have hop : Calls Try.prog 28 #[.int .u8 1, .int .u32 (place : Int), v] (w.alloc (.cells #[.int .u64 0, .slice none 0 0] 48)) fun e w' => Opened 1 place B (w.alloc (.cells #[.int .u64 0, .slice none 0 0] 48)) e w' := open_any 1 place v B _ (by omega) (hr.kept k0 (by simp))
  have fin : ∀ w', Kept [] w w' → FoundAt place B w (.returned (.agg #[.int .u64 ((0 : Nat) : Int), .slice none 0 0])) w' := fun w' k => ⟨0, _, [], rfl, Reads.nil w', k, by intro g hg; simp [Value.ownBlock] at hg, by intro g hg; simp [Value.ownBlock] at hg, .inr ⟨hF, rfl⟩⟩
  go_enter Try.func20, Try.ntmps20
  go_wp2_with fail
  generalize hw0 : w.alloc (.cells #[.int .u64 0, .slice none 0 0] 48) = w0 at k0 hb hop
  generalize hbb : w.heap.size = b at hb
  clear hw0
  refine hop.mono ?_
  rintro e w1 ⟨v1, ok, p, rfl, hR1, k1, h1⟩
  rcases h1 with ⟨_, hfits, _⟩ | ⟨rfl, _, rfl⟩
  · exact absurd hfits hF
  have hb1 := hb.kept k1 (by simp)
  have kk := k0.trans k1 (by simp)
  obtain ⟨c0, c1⟩ := cell_of_two hb1
  obtain ⟨f0, f1⟩ := free_of_two hb1
  obtain ⟨hb2, k2⟩ := hb1.set 0 (.slice none 0 0)
  have kk2 := kk.trans k2 (fun x hx => .inr (by simp at hx; omega))
  clear hop hR1 k1 k2 kk
  unfold Boxed at hb1
  go_wp2_with fail
  refine bodyPost_ret (results_cell_row (P := Try.prog) (ty := 48) (p := 4) rfl _ _ b 48 _ (0, 0) _ rfl hb2 Try.underlying48 rfl size48) rfl ?_
  exact fin _ kk2

set_option maxRecDepth 100000 in
set_option maxHeartbeats 400000 in
theorem find_yes (place : Nat) (v : Value) (B : List UInt8) (w : World) (hp : place < 2) (hr : Reads w v B) (hF : Fits 1 place B) :
    Calls Try.prog 20 #[.int .i64 (place : Int), v] w fun e w' => FoundAt place B w e w' := by
  have hcv : IntKind.u32.wrap (place : Int) = (place : Int) := by rw [IntKind.wrap_u32]; omega
  have k0 := (Kept.refl [] w).alloc (.cells #[.int .u64 0, .slice none 0 0] 48)
  have hb : Boxed (w.alloc (.cells #[.int .u64 0, .slice none 0 0] 48)) w.heap.size 0 (.slice none 0 0) := heap_alloc_new w _
  have hop : Calls Try.prog 28 #[.int .u8 1, .int .u32 (place : Int), v] (w.alloc (.cells #[.int .u64 0, .slice none 0 0] 48)) fun e w' => Opened 1 place B (w.alloc (.cells #[.int .u64 0, .slice none 0 0] 48)) e w' := open_any 1 place v B _ (by omega) (hr.kept k0 (by simp))
  have fin0 : recOf place (payloadOf B) = (0, []) → ∀ w', Kept [] w w' → FoundAt place B w (.returned (.agg #[.int .u64 ((0 : Nat) : Int), .slice none 0 0])) w' := fun hz w' k => ⟨0, _, [], rfl, Reads.nil w', k, by intro g hg; simp [Value.ownBlock] at hg, by intro g hg; simp [Value.ownBlock] at hg, .inl ⟨hF, hz.symm⟩⟩
  have fin1 : ∀ g v' l, recOf place (payloadOf B) = (g, l) → ∀ w', Reads w' v' l → Fresh w v' → (∀ x, v'.ownBlock = some x → x < w'.heap.size) → Kept [] w w' → FoundAt place B w (.returned (.agg #[.int .u64 ((g : Nat) : Int), v'])) w' := fun g v' l hz w' h1 h2 h3 k => ⟨g, _, l, rfl, h1, k, h2, h3, .inl ⟨hF, hz.symm⟩⟩
  have hpl := payload_len B hF.2.1
  unfold recOf at fin0 fin1
  generalize FoundAt place B w = R at fin0 fin1
  go_enter Try.func20, Try.ntmps20
  go_wp2_with fail
  generalize hw0 : w.alloc (.cells #[.int .u64 0, .slice none 0 0] 48) = w0 at k0 hb hop
  generalize hbb : w.heap.size = b at hb
  clear hw0
  refine hop.mono ?_
  rintro e w1 ⟨v1, ok, p, rfl, hR1, k1, h1⟩
  rcases h1 with ⟨rfl, _, rfl⟩ | ⟨_, hfits, _⟩
  case inr => exact absurd hF hfits
  have hb1 := hb.kept k1 (by simp)
  have kk := k0.trans k1 (by simp)
  clear hop k1 hF
  generalize payloadOf B = P at fin0 fin1 hR1 hpl
  go_wp2_with fail
  refine (newr_any v1 P w1 hR1 (by omega)).mono ?_
  rintro e w2 ⟨q, v2, rfl, hR2, k2, f2, q2⟩
  have hb2 := hb1.kept k2 (by simp)
  have kk2 := kk.trans k2 (by simp)
  have hbq : b < q := Nat.lt_of_lt_of_le hb1.lt q2
  clear hR1 k2 hb1
  go_wp2_with fail
  refine (rnum_any q v2 P false w2 hR2).mono ?_
  rintro e w3 ⟨rfl, v3, hR3, k3, n3⟩
  have hb3 := hb2.kept k3 (by simp; omega)
  have hlen3 := rnum_len P false
  have hlt3 := rnum_lt P false
  have kk3 := kk2.trans k3 (fun x hx => .inr (by simp at hx; have := kk.size; omega))
  generalize rnum P false = a at hR3 fin0 fin1 hlen3 hlt3
  obtain ⟨G, l1, b1⟩ := a
  simp only at hR3 fin0 fin1 hlen3 hlt3
  clear hR2 k3 n3 f2 kk2 hb2
  go_wp2_with fail
  refine (rtext_any q v3 l1 b1 w3 hR3).mono ?_
  rintro e w4 ⟨rfl, v4, hR4, k4, n4⟩
  have hb4 := hb3.kept k4 (by simp; omega)
  have hlen4 := rtext_len l1 b1
  have kk4 := kk3.trans k4 (fun x hx => .inr (by simp at hx; have := kk.size; omega))
  generalize rtext l1 b1 = a at hR4 fin0 fin1 hlen4
  obtain ⟨T, l2, b2⟩ := a
  simp only at hR4 fin0 fin1 hlen4
  obtain ⟨cap, w5, hcv5, hr5, k5, hx5⟩ := bytes_of w4 T (by unfold maxLen; omega)
  have hR5 := hR4.kept k5 (by simp) (by simp)
  have hb5 := hb4.kept k5 (by simp)
  have kk5 := kk4.trans k5 (by simp)
  have fr5 : w.heap.size ≤ w4.heap.size := kk4.size
  have hbx : b < w4.heap.size := hb4.lt
  generalize hx4 : w4.heap.size = x4 at hcv5 hr5 fr5 hbx hx5
  clear hR3 k4 n4 hb3 hb4 kk3 k5 hR4 hx4 kk4
  go_wp2_with fail
  have k6 := (Kept.refl [] w5).alloc (.cells #[.int .u64 (G : Int), .slice (some ⟨x4, 0, none⟩) T.length cap] 48)
  have hc6 : Boxed (w5.alloc (.cells #[.int .u64 (G : Int), .slice (some ⟨x4, 0, none⟩) T.length cap] 48)) w5.heap.size G (.slice (some ⟨x4, 0, none⟩) T.length cap) := heap_alloc_new w5 _
  have hlt5 := hb5.lt
  have hr6 := hr5.kept k6 (by simp)
  have hR6 := hR5.kept k6 (by simp) (by simp)
  have hb6 := hb5.kept k6 (by simp)
  have kk6 := kk5.trans k6 (by simp)
  have hT : T.length ≤ 242 := by omega
  generalize w5.alloc (.cells #[.int .u64 (G : Int), .slice (some ⟨x4, 0, none⟩) T.length cap] 48) = w6 at k6 hc6 hr6 hR6 hb6 kk6
  generalize w5.heap.size = c at hc6 hlt5
  have hfr : Fresh w (.slice (some ⟨x4, 0, none⟩) T.length cap) := by intro g hg; simp [Value.ownBlock] at hg; omega
  have hx6 : x4 < w6.heap.size := Nat.lt_of_lt_of_le hx5 k6.size
  clear hr5 hR5 hb5 kk5 k6 hcv5 fr5 hx5
  refine (end_any q v4 l2 b2 w6 hR6).mono ?_
  rintro e w7 ⟨rfl, rfl⟩
  generalize hE : (!b2 && l2.isEmpty) = E at fin0 fin1
  clear hE hR6
  have hb6' := hb6
  have hc6' := hc6
  obtain ⟨c0, c1⟩ := cell_of_two hb6'
  obtain ⟨d0, d1⟩ := free_of_two hb6'
  unfold Boxed at hb6' hc6'
  obtain ⟨e0, e1⟩ := cell_of_two hc6'
  cases E with
  | false =>
    obtain ⟨hb8, k8⟩ := hb6.set 0 (.slice none 0 0)
    have kk8 := kk6.trans k8 (fun x hx => .inr (by simp at hx; omega))
    have fin := fin0 (if_neg (by simp)) _ kk8
    clear fin0 fin1
    go_wp2_with fail
    refine bodyPost_ret (results_cell_row (P := Try.prog) (ty := 48) (p := 4) rfl _ _ b 48 _ (0, 0) _ rfl hb8 Try.underlying48 rfl size48) rfl ?_
    exact fin
  | true =>
    go_wp2_with fail
    refine (place_any G _ w6 hlt3).mono ?_
    rintro e w7 ⟨rfl, k7⟩
    have hb7 := hb6.kept k7 (by simp)
    have hc7 := hc6.kept k7 (by simp)
    have hr7 := hr6.kept k7 (by simp)
    have kk7 := kk6.trans k7 (by simp)
    have hx7 : x4 < w7.heap.size := Nat.lt_of_lt_of_le hx6 k7.size
    have hz := plc_lt G
    clear hb6 hb6' hc6 hc6' c0 c1 d0 d1 e0 e1 hr6 kk6 k7
    obtain ⟨c0, c1⟩ := cell_of_two hb7
    obtain ⟨d0, d1⟩ := free_of_two hb7
    obtain ⟨e0, e1⟩ := cell_of_two hc7
    have hb7' := hb7
    unfold Boxed at hb7' hc7
    obtain ⟨hb8, k8⟩ := hb7.set 0 (.slice none 0 0)
    have kk8 := kk7.trans k8 (fun x hx => .inr (by simp at hx; omega))
    obtain ⟨hb9, k9⟩ := hb7.set G (.slice (some ⟨x4, 0, none⟩) T.length cap)
    have kk9 := kk7.trans k9 (fun x hx => .inr (by simp at hx; omega))
    by_cases hP : plc G = place
    · rw [hP]
      have hne : ((place : Int) != (place : Int)) = false := by simp
      by_cases hL : T.length ≤ 200
      · have fin := fin1 G (.slice (some ⟨x4, 0, none⟩) T.length cap) T (if_pos (by simp [hP, hL])) _ (hr7.kept k9 (fun g hg => by simp [Value.ownBlock] at hg; subst hg; simp; omega)) hfr (fun g hg => by simp [Value.ownBlock] at hg; subst hg; exact Nat.lt_of_lt_of_le hx7 k9.size) kk9
        have fin' := Hid.mk fin
        have hb9' := Hid.mk hb9
        clear fin hb9 hr7 hfr
        have hL2 : ¬ (200 : Int) < (T.length : Int) := by omega
        clear hlt3 hz
        clear fin0 fin1 kk8 kk9 hb8 k8 k9 hP
        go_wp2_with fail
        refine bodyPost_ret (results_cell_row (P := Try.prog) (ty := 48) (p := 4) rfl _ _ b 48 _ (0, 0) _ rfl hb9'.out Try.underlying48 rfl size48) rfl ?_
        exact fin'.out
      · have fin := fin0 (if_neg (by intro h; exact hL h.2.2)) _ kk8
        have hL2 : (200 : Int) < (T.length : Int) := by omega
        clear fin0 fin1 kk8 kk9 hb9 k8 k9 hP
        go_wp2_with fail
        refine bodyPost_ret (results_cell_row (P := Try.prog) (ty := 48) (p := 4) rfl _ _ b 48 _ (0, 0) _ rfl hb8 Try.underlying48 rfl size48) rfl ?_
        exact fin
    · have fin := fin0 (if_neg (by intro h; exact hP h.2.1)) _ kk8
      have hne : (((plc G : Nat) : Int) != (place : Int)) = true := by simp; omega
      clear fin0 fin1 kk8 kk9 hb9 k8 k9
      go_wp2_with fail
      refine bodyPost_ret (results_cell_row (P := Try.prog) (ty := 48) (p := 4) rfl _ _ b 48 _ (0, 0) _ rfl hb8 Try.underlying48 rfl size48) rfl ?_
      exact fin

/-- recordIn: the record that lies in the block of that place. -/
theorem find_any (place : Nat) (v : Value) (B : List UInt8) (w : World) (hp : place < 2) (hr : Reads w v B) :
    Calls Try.prog 20 #[.int .i64 (place : Int), v] w fun e w' => FoundAt place B w e w' := by
  by_cases hF : Fits 1 place B
  · exact find_yes place v B w hp hr hF
  · exact find_no place v B w hp hr hF

end Go.Proofs.Ythjdlbejfaejkaa
