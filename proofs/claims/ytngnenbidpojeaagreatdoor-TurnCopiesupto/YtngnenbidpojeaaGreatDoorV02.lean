import Derived.Lib.SliceRun
import Derived.Test.YtngnenbidpojeaaGreatDoorV01
/-
  firstNumber: the number that bytes begin with.
-/
namespace Go.Proofs.YtngnenbidpojeaaGreatDoor
set_option maxRecDepth 100000
open Go.RowKit
set_option linter.unusedVariables false
theorem dec_small (x : UInt8) (t : List UInt8) (h : x.toNat ≤ 247) : dec (x :: t) = (x.toNat, 1) := by simp [dec, h]
theorem dec_short (x : UInt8) (t : List UInt8) (h : ¬ x.toNat ≤ 247) (h2 : t.length < x.toNat - 247) : dec (x :: t) = (0, 0) := by simp [dec, h, h2]
theorem dec_zero (x y : UInt8) (t : List UInt8) (h : ¬ x.toNat ≤ 247) (h2 : y.toNat = 0) : dec (x :: y :: t) = (0, 0) := by simp [dec, h, h2]
theorem dec_low (x y : UInt8) (t : List UInt8) (h : ¬ x.toNat ≤ 247) (h2 : x.toNat - 247 ≤ t.length + 1) (h3 : y.toNat ≠ 0) (h4 : worth ((y :: t).take (x.toNat - 247)) ≤ 247) : dec (x :: y :: t) = (0, 0) := by
  simp only [dec]
  rw [if_neg h, if_neg (by simp; omega), if_pos h4]
theorem dec_high (x y : UInt8) (t : List UInt8) (h : ¬ x.toNat ≤ 247) (h2 : x.toNat - 247 ≤ t.length + 1) (h3 : y.toNat ≠ 0) (h4 : ¬ worth ((y :: t).take (x.toNat - 247)) ≤ 247) : dec (x :: y :: t) = (worth ((y :: t).take (x.toNat - 247)), x.toNat - 247 + 1) := by
  simp only [dec]
  rw [if_neg h, if_neg (by simp; omega), if_neg h4]
set_option maxRecDepth 100000 in
set_option maxHeartbeats 400000 in
theorem first_nil (a : Option Addr) (cap : Nat) (w : World) : Calls Tryz.prog 113 #[.slice a 0 cap] w fun e w' => e = .returned (.tuple #[.int .u64 0, .int .i64 0]) ∧ w = w' := by
  go_enter Tryz.func113, Tryz.ntmps113
  go_wp2
  go_ret2
  exact ⟨rfl, rfl⟩
set_option maxRecDepth 100000 in
set_option maxHeartbeats 400000 in
theorem first_small (b o n cap x : Nat) (w : World) (hn : n + 1 ≤ cap) (hm : cap ≤ 9223372036854775807) (hx : x ≤ 247) (hc : w.cell? ⟨b, o, none⟩ = some (.int .u8 (x : Int))) :
    Calls Tryz.prog 113 #[.slice (some ⟨b, o, none⟩) (n + 1) cap] w fun e w' => e = .returned (.tuple #[.int .u64 (x : Int), .int .i64 1]) ∧ w = w' := by
  have hp : ((n + 1 : Nat) : Int) = (n : Int) + 1 := by omega
  have h0 : (((n + 1 : Nat) : Int) == 0) = false := by simp; omega
  go_enter Tryz.func113, Tryz.ntmps113
  go_wp2
  go_ret2
  exact ⟨rfl, rfl⟩
set_option maxRecDepth 100000 in
set_option maxHeartbeats 400000 in
theorem first_short (b o n cap x : Nat) (w : World) (hn : n + 1 ≤ cap) (hm : cap ≤ 9223372036854775807) (hx : 247 < x) (hx2 : x < 256) (hs : n < x - 247) (hc : w.cell? ⟨b, o, none⟩ = some (.int .u8 (x : Int))) :
    Calls Tryz.prog 113 #[.slice (some ⟨b, o, none⟩) (n + 1) cap] w fun e w' => e = .returned (.tuple #[.int .u64 0, .int .i64 0]) ∧ w = w' := by
  have h0 : (((n + 1 : Nat) : Int) == 0) = false := by simp; omega
  have h1 : ((n + 1 : Nat) : Int) < 1 + (x : Int) - 247 := by omega
  go_enter Tryz.func113, Tryz.ntmps113
  go_wp2
  go_ret2
  exact ⟨rfl, rfl⟩
set_option maxRecDepth 100000 in
set_option maxHeartbeats 400000 in
theorem first_zero (b o n cap x : Nat) (w : World) (hn : n + 2 ≤ cap) (hm : cap ≤ 9223372036854775807) (hx : 247 < x) (hx2 : x < 256) (hs : x - 247 ≤ n + 1) (hc : w.cell? ⟨b, o, none⟩ = some (.int .u8 (x : Int))) (hc1 : w.cell? ⟨b, o + 1, none⟩ = some (.int .u8 0)) :
    Calls Tryz.prog 113 #[.slice (some ⟨b, o, none⟩) (n + 2) cap] w fun e w' => e = .returned (.tuple #[.int .u64 0, .int .i64 0]) ∧ w = w' := by
  have h0 : (((n + 2 : Nat) : Int) == 0) = false := by simp; omega
  have h1 : ¬ ((n + 2 : Nat) : Int) < 1 + (x : Int) - 247 := by omega
  go_enter Tryz.func113, Tryz.ntmps113
  go_wp2
  go_ret2
  exact ⟨rfl, rfl⟩
/-- What firstNumber answers where N was read behind a first byte x. -/
def firstOut (x N : Nat) : Value := if N ≤ 247 then .tuple #[.int .u64 0, .int .i64 0] else .tuple #[.int .u64 (N : Int), .int .i64 ((x - 247 + 1 : Nat) : Int)]
theorem or_low (N u : Nat) (hN : N < 72057594037927936) (hu : u < 256) : bits .or .u64 ((N : Int) * 256) (u : Int) = (N : Int) * 256 + (u : Int) := by
  have h := u64_or_nat (N * 256) u (by omega) (by omega)
  have e := Nat.two_pow_add_eq_or_of_lt (b := u) (i := 8) (by omega) N
  rw [show (2 : Nat) ^ 8 * N = N * 256 by omega] at e
  rw [← e] at h
  simpa using h
theorem worth_take (t : List UInt8) (j : Nat) (hj : j < t.length) (u : UInt8) (hu : t[j]? = some u) : worth (t.take (j + 1)) = worth (t.take j) * 256 + u.toNat := by
  rw [List.take_add_one, hu]
  exact worth_snoc _ _
theorem worth_take_lt (t : List UInt8) (j : Nat) (hj : j ≤ 7) : worth (t.take j) < 72057594037927936 := by
  have h1 := worth_lt (t.take j)
  have h2 : (t.take j).length ≤ 7 := by simp; omega
  have h3 := Nat.pow_le_pow_right (n := 256) (by omega) h2
  have h4 : (256 : Nat) ^ 7 = 72057594037927936 := by decide
  omega
set_option maxRecDepth 100000 in
set_option maxHeartbeats 1000000 in
theorem first_loop (b o n cap x y : Nat) (t : List UInt8) (w : World) (hn : n + 2 ≤ cap) (hm : cap ≤ 9223372036854775807) (hx : 247 < x) (hx2 : x < 256) (hs : x - 247 ≤ n + 1) (hc : w.cell? ⟨b, o, none⟩ = some (.int .u8 (x : Int))) (hc1 : w.cell? ⟨b, o + 1, none⟩ = some (.int .u8 (y : Int))) (hy : 1 ≤ y)
    (ht : t.length = x - 247) (hct : ∀ j u, t[j]? = some u → w.cell? ⟨b, o + 1 + j, none⟩ = some (.int .u8 (u.toNat : Int))) :
    Calls Tryz.prog 113 #[.slice (some ⟨b, o, none⟩) (n + 2) cap] w fun e w' => e = .returned (firstOut x (worth t)) ∧ w = w' := by
  have h0 : (((n + 2 : Nat) : Int) == 0) = false := by simp; omega
  have h1 : ¬ ((n + 2 : Nat) : Int) < 1 + (x : Int) - 247 := by omega
  have h2 : ((y : Int) == 0) = false := by simp; omega
  have HT : Hid (t.length = x - 247) := ht
  clear ht
  go_enter Tryz.func113, Tryz.ntmps113
  go_wp2
  go_loop [5, 39] (fun c i => ∃ j : Nat, j ≤ x - 247 ∧ i = .int .i64 (j : Int) ∧ c = .int .u64 ((worth (t.take j) : Nat) : Int)) (fun _ i => 9 - (intOf i).toNat)
  case atStart => exact ⟨0, Nat.zero_le _, rfl, rfl⟩
  case round =>
    obtain ⟨j, hj, rfl, rfl⟩ := hrel
    by_cases hlt : j < x - 247
    · obtain ⟨u, hu⟩ : ∃ u, t[j]? = some u := ⟨t[j]'(by rw [HT.out]; exact hlt), by simp⟩
      have HU : Hid (worth (t.take (j + 1)) = worth (t.take j) * 256 + u.toNat) := worth_take t j (by rw [HT.out]; exact hlt) u hu
      have hN := worth_take_lt t j (by omega)
      have hcj := hct j u hu
      have hub := u.toNat_lt
      have hor := or_low (worth (t.take j)) u.toNat hN hub
      generalize worth (t.take j) = N at hN hor HU ⊢
      generalize u.toNat = U at hub hor HU hcj
      clear hct hc hc1 hu
      go_wp2
      go_round
      case rel => exact ⟨j + 1, by omega, by go_num, by rw [HU.out]; rfl⟩
      case measure => simp [intOf]; omega
    · have hje : Hid (j = x - 247) := by show _ = _; omega
      have HW : Hid (worth (t.take j) = worth t) := by show _ = _; rw [List.take_of_length_le (by rw [HT.out]; omega)]
      generalize worth (t.take j) = N at HW ⊢
      clear hct hc hc1
      by_cases h247 : N ≤ 247
      · go_wp2
        go_ret2
        exact ⟨by rw [← HW.out, firstOut, if_pos h247]; rfl, rfl⟩
      · go_wp2
        go_ret2
        refine ⟨?_, rfl⟩
        rw [← HW.out, firstOut, if_neg h247]
        exact congrArg (fun z => Ending.returned (.tuple #[.int .u64 (N : Int), .int .i64 z])) (by omega)
set_option maxRecDepth 100000 in
/-- firstNumber tells 'dec', and changes nothing. -/
theorem first_any (v : Value) (l : List UInt8) (w : World) (h : Reads w v l) :
    Calls Tryz.prog 113 #[v] w fun e w' => e = .returned (.tuple #[.int .u64 ((dec l).1 : Int), .int .i64 ((dec l).2 : Int)]) ∧ w = w' := by
  obtain ⟨a, cap, rfl, h2, h3, h4, h5⟩ := h
  unfold maxLen at h3
  match l with
  | [] => exact first_nil a cap w
  | [x] =>
    obtain ⟨b, o, rfl, hc⟩ := h5 (by simp)
    have hx := x.toNat_lt
    have hc0 := hc 0 x rfl
    by_cases hs : x.toNat ≤ 247
    · rw [dec_small x [] hs]; exact first_small b o 0 cap x.toNat w (by simpa using h2) h3 hs hc0
    · rw [dec_short x [] hs (by simp; omega)]; exact first_short b o 0 cap x.toNat w (by simpa using h2) h3 (by omega) hx (by omega) hc0
  | x :: y :: t =>
    obtain ⟨b, o, rfl, hc⟩ := h5 (by simp)
    have hx := x.toNat_lt
    have hc0 := hc 0 x rfl
    have hc1 := hc 1 y rfl
    simp only [List.length_cons] at h2 ⊢
    by_cases hs : x.toNat ≤ 247
    · rw [dec_small x _ hs]; exact first_small b o (t.length + 1) cap x.toNat w h2 h3 hs hc0
    by_cases hl : t.length + 1 < x.toNat - 247
    · rw [dec_short x _ hs (by simpa using hl)]; exact first_short b o (t.length + 1) cap x.toNat w h2 h3 (by omega) hx hl hc0
    by_cases hy : y.toNat = 0
    · rw [dec_zero x y t hs hy]
      exact first_zero b o t.length cap x.toNat w h2 h3 (by omega) hx (by omega) hc0 (by rw [hc1]; simp [B8, hy])
    · have hlen : ((y :: t).take (x.toNat - 247)).length = x.toNat - 247 := by rw [List.length_take, List.length_cons]; omega
      have key := first_loop b o t.length cap x.toNat y.toNat ((y :: t).take (x.toNat - 247)) w h2 h3 (by omega) hx (by omega) hc0 hc1 (by omega) hlen (fun j u hu => by
        have hj : j < x.toNat - 247 := by
          have := (List.getElem?_eq_some_iff.1 hu).1; omega
        rw [List.getElem?_take_of_lt hj] at hu
        have := hc (j + 1) u (by simpa using hu)
        rw [show o + 1 + j = o + (j + 1) by omega]
        exact this)
      by_cases h247 : worth ((y :: t).take (x.toNat - 247)) ≤ 247
      · rw [dec_low x y t hs (by omega) hy h247]
        rw [firstOut, if_pos h247] at key
        exact key
      · rw [dec_high x y t hs (by omega) hy h247]
        rw [firstOut, if_neg h247] at key
        exact key
end Go.Proofs.YtngnenbidpojeaaGreatDoor
/-
  'append(v, s...)', s a string, v nil or an owned row: where the new slice lies. Nothing here speaks of the program.
-/
namespace Go.Proofs.YtngnenbidpojeaaGreatDoor
set_option maxRecDepth 100000
open Go.RowKit
theorem Owns.form {e : TypeId} {w : World} {v : Value} {l : List UInt8} (h : Owns e w v l) : ∃ a cap, v = .slice a l.length cap := by
  rcases h.2 with ⟨rfl, h0⟩ | ⟨g, cap, cur, rfl, _⟩
  · exact ⟨none, 0, by rw [h0]⟩
  · exact ⟨_, cap, rfl⟩
section
variable {P : Program} (w : World)
theorem run_append_str_lies (t u ty e : TypeId) (i : TypeInfo) (ht : P.underlying t = some (.slice e)) (hu : P.underlying u = some .string) (hi : P.info? e = some i) (hz : i.zero = some (.int .u8 0))
    (hsize : i.size = 1) (hby : i.bytes = 1) (v : Value) (l : List UInt8) (hown : Owns e w v l) (s : ByteArray) (hb : l.length + s.size ≤ 140737488355328) :
    ∃ v' w', (Builtin.append_ #[t, u] ty #[v, .string s]).run P w = .ok v' w' ∧ Owns e w' v' (l ++ s.data.toList) ∧ w.grownBy w' v.ownBlock ∧ (∀ g, v'.ownBlock = some g → v.ownBlock = some g ∨ w.heap.size ≤ g) := by
  obtain ⟨v', w', hr, h1, h2, h3⟩ := Lib.run_append_own_string (P := P) w 0 t u ty e i ht hu hi hz hsize hby v l.length (C8 l) hown s (by unfold maxLen; omega) hb (Nat.zero_le _)
  refine ⟨v', w', hr, ?_, h2, ?_⟩
  · unfold Owns
    rw [C8_append, List.length_append]
    exact h1
  · have key : ∀ v2 w2, (Builtin.append_ #[t, u] ty #[v, .string s]).run P w = .ok v2 w2 → v2 = v' := fun v2 w2 h => by
      rw [hr] at h; injection h with h _; exact h.symm
    intro g hg
    rcases hown.2 with ⟨rfl, h0⟩ | ⟨g0, cap, cur, rfl, hb0, hg0, hnc, hcm, hcs, htake⟩
    · by_cases hs : s.size = 0
      · have := h3.2 ⟨rfl, hs⟩
        rw [this] at hg
        simp [Value.ownBlock] at hg
      · have hr2 := run_append_nil_string (P := P) w t u ty e i (.int .u8 0) ht hu hi hz s (by omega) (by omega) (by rw [hby]; omega)
        have e1 := key _ _ hr2
        rw [← e1] at hg
        simp [Value.ownBlock] at hg
        exact .inr (by omega)
    · by_cases hroom : l.length + s.size ≤ cap
      · have hcs' : cur.size = cap := by simpa using hcs
        have hr2 := Lib.run_append_room_string (P := P) w t u ty e i ht hu hi hsize g0 l.length cap cur hg0 s hroom (by omega)
        have e1 := key _ _ hr2
        rw [← e1] at hg
        exact .inl hg
      · have holds : ∀ j u, (C8 l)[j]? = some u → w.cell? ((⟨g0, 0, none⟩ : Addr).add j) = some u := World.ownsRow.cells hown (g := g0) rfl
        have hr2 := Lib.run_append_grow_string (P := P) w t u ty e i (.int .u8 0) ht hu hi hz ⟨g0, 0, none⟩ l.length cap (C8 l) (by rw [hsize, Nat.mul_one]; exact C8_length l) holds s (by omega) (by omega) (by rw [hby]; exact growslice_fits (by omega) (by omega))
        have e1 := key _ _ hr2
        rw [← e1] at hg
        simp [Value.ownBlock] at hg
        exact .inr (by omega)
/-- The same at the operation, for the walk. -/
theorem wpList_append_str_lies {ops : Array Oper} {rest : List Oper} {o : Oper} {a : Act} {Q : Exit → Act → World → Prop} (hgd : o.guard = none) (sl x : Operand) (t u : TypeId)
    (ho : o.op = .call { callee := .builtin .append, args := #[sl, x], argTypes := #[t, u] }) (e : TypeId) (i : TypeInfo) (ht : P.underlying t = some (.slice e)) (hu : P.underlying u = some .string) (hi : P.info? e = some i) (hz : i.zero = some (.int .u8 0))
    (hsize : i.size = 1) (hby : i.bytes = 1) (v : Value) (l : List UInt8) (hs : a.eval sl = v) (hown : Owns e w v l) (s : ByteArray) (hx : a.eval x = .string s) (hb : l.length + s.size ≤ 140737488355328)
    (h : ∀ ad n cap w', Owns e w' (.slice ad n cap) (l ++ s.data.toList) → w.grownBy w' v.ownBlock → (∀ g, (Value.slice ad n cap).ownBlock = some g → v.ownBlock = some g ∨ w.heap.size ≤ g) → wpList P ops Q rest (a.put o.dst (.slice ad n cap)) w') : wpList P ops Q (o :: rest) a w := by
  refine wpList_plain hgd fun K hK => ?_
  obtain ⟨v', w', hr, h2, h3, h4⟩ := run_append_str_lies (P := P) w t u o.type e i ht hu hi hz hsize hby v l hown s hb
  unfold Oper.wp execOp
  simp only [ho, resolve, invoke, builtin, Sem.run_bind, Sem.run_pure, Result.andThen_ok, List.map_toArray, List.map_cons, List.map_nil, hs, hx, hr]
  obtain ⟨ad, cap, rfl⟩ := h2.form
  exact hK _ _ (h ad _ cap w' h2 h3 h4)
end
end Go.Proofs.YtngnenbidpojeaaGreatDoor
/-
  Slices of bytes that are cut; a Reader behind a call. Nothing here speaks of the program.
-/
namespace Go.Proofs.YtngnenbidpojeaaGreatDoor
set_option maxRecDepth 100000
open Go.RowKit
/-- The slice v1 lies where v lay, or nowhere. -/
def Within (v v1 : Value) : Prop := ∀ g, v1.ownBlock = some g → v.ownBlock = some g
theorem Within.refl (v : Value) : Within v v := fun _ h => h
theorem Within.trans {v v1 v2 : Value} (h : Within v v1) (k : Within v1 v2) : Within v v2 := fun g hg => h g (k g hg)
/-- 'v[k:]'. -/
theorem slice_from {P : Program} (t e : TypeId) (ht : P.underlying t = some (.slice e)) (hz : ∀ w, (Go.sizeOf e).run P w = .ok 1 w) (kl : IntKind) (a : Option Addr) (cap k : Nat) (l : List UInt8) (w : World) (h : Reads w (.slice a l.length cap) l) (hk : k ≤ l.length) :
    ∃ a' c', (∀ W, (Instr.slice t (.slice a l.length cap) (some (.int kl (k : Int))) none none).run P W = .ok (.slice a' (l.length - k) c') W) ∧ Reads w (.slice a' (l.length - k) c') (l.drop k) ∧ Within (.slice a l.length cap) (.slice a' (l.length - k) c') := by
  have ht' : P.underlying t = some (.slice (P.elem t)) := by simp [Program.elem, ht]
  have he : P.elem t = e := by simp [Program.elem, ht]
  obtain ⟨a0, cap0, hv, h2, h3, h4, h5⟩ := h
  injection hv with e1 e2 e3
  subst e1 e3
  refine ⟨if cap = k then a else a.map (·.add (k * 1)), cap - k, fun W => ?_, ?_, ?_⟩
  · rw [run_slice_l W t _ _ _ ht' kl _ (by omega) (by omega), he, hz]
    simp [Result.andThen, sliced]
  · refine ⟨_, cap - k, by rw [List.length_drop], by rw [List.length_drop]; omega, by omega, ?_, ?_⟩
    · intro hn
      by_cases hc : cap = k
      · omega
      · rw [if_neg hc] at hn
        have : a = none := by cases a <;> simp_all
        have := h4 this
        omega
    · intro hne
      have hlt : k < l.length := by
        rcases Nat.lt_or_ge k l.length with h | h
        · exact h
        · exact absurd (List.drop_eq_nil_of_le h) hne
      obtain ⟨b, o, rfl, hc⟩ := h5 (by intro h; subst h; simp at hlt)
      refine ⟨b, o + k, ?_, fun j u hu => ?_⟩
      · rw [if_neg (by omega)]
        simp only [Option.map_some, Nat.mul_one]
        congr 1
        unfold Addr.add; split <;> simp_all
      · rw [List.getElem?_drop] at hu
        have := hc (k + j) u hu
        rw [Nat.add_assoc]
        exact this
  · intro g hg
    by_cases hc : cap = k
    · rw [if_pos hc] at hg
      cases a <;> exact hg
    · rw [if_neg hc] at hg
      cases a with
      | none => simp [Value.ownBlock] at hg
      | some x =>
        simp only [Option.map_some, Value.ownBlock] at hg ⊢
        rw [← hg]
        congr 1
        unfold Addr.add; split <;> rfl
/-- 'v[:k]'. -/
theorem slice_to {P : Program} (t e : TypeId) (ht : P.underlying t = some (.slice e)) (hz : ∀ w, (Go.sizeOf e).run P w = .ok 1 w) (kh : IntKind) (a : Option Addr) (cap k : Nat) (l : List UInt8) (w : World) (h : Reads w (.slice a l.length cap) l) (hk : k ≤ l.length) :
    ∃ a' c', (∀ W, (Instr.slice t (.slice a l.length cap) none (some (.int kh (k : Int))) none).run P W = .ok (.slice a' k c') W) ∧ Reads w (.slice a' k c') (l.take k) := by
  have ht' : P.underlying t = some (.slice (P.elem t)) := by simp [Program.elem, ht]
  have he : P.elem t = e := by simp [Program.elem, ht]
  obtain ⟨a0, cap0, hv, h2, h3, h4, h5⟩ := h
  injection hv with e1 e2 e3
  subst e1 e3
  have hl : (l.take k).length = k := by rw [List.length_take]; omega
  refine ⟨if cap = 0 then a else a.map (·.add 0), cap, fun W => ?_, ?_⟩
  · rw [run_slice_h W t _ _ _ ht' kh _ (by omega) (by omega), he, hz]
    simp [Result.andThen, sliced]
  · refine ⟨_, cap, by rw [hl], by omega, h3, ?_, ?_⟩
    · intro hn
      by_cases hc : cap = 0
      · exact hc
      · rw [if_neg hc] at hn
        have : a = none := by cases a <;> simp_all
        exact h4 this
    · intro hne
      have hne' : l ≠ [] := by intro h; subst h; simp at hne
      obtain ⟨b, o, rfl, hc⟩ := h5 hne'
      have hpos : 0 < l.length := List.length_pos_iff.2 hne'
      refine ⟨b, o, ?_, fun j u hu => ?_⟩
      · rw [if_neg (by omega)]
        simp [Addr.add]
      · have hj : j < k := by
          have := (List.getElem?_eq_some_iff.1 hu).1; omega
        rw [List.getElem?_take_of_lt hj] at hu
        exact hc j u hu
/-- 'string(v)'. -/
theorem string_of {P : Program} (t e : TypeId) (ht : P.underlying t = some (.slice e)) (u : TypeId) (he : P.underlying e = some (.int .u8)) (hu : P.underlying u = some .string) (v : Value) (l : List UInt8) (w : World) (h : Reads w v l) :
    (convert t u v).run P w = .ok (.string ⟨l.toArray⟩) w := by
  obtain ⟨a, cap, rfl, h2, h3, h4, h5⟩ := h
  cases a with
  | none =>
    have h0 : l = [] := List.eq_nil_of_length_eq_zero (by have := h4 rfl; omega)
    subst h0
    rw [run_convert_bytes_string w t u e _ _ _ ht he hu]
    simp [Conv.bytesToString]
    rfl
  | some a =>
    refine run_convert_bytes_back w t u e a cap l ht he hu fun j hj => ?_
    obtain ⟨b, o, hab, hc⟩ := h5 (by intro h; subst h; simp at hj)
    simp at hab
    subst hab
    have hadd : (⟨b, o, Option.none⟩ : Addr).add j = ⟨b, o + j, Option.none⟩ := by unfold Addr.add; split <;> simp_all
    rw [hadd]
    exact hc j l[j] (by simp)
/-- What a call leaves of a Reader. -/
def Rest (t : TypeId) (w : World) (p : Nat) (v : Value) (l : List UInt8) (bad : Bool) (w' : World) : Prop :=
  ∃ v', IsR t w' p v' l bad ∧ Kept [p] w w' ∧ Within v v'
theorem two_set0 {w : World} {b : Nat} {v u x : Value} {t : TypeId} (h : w.heap[b]? = some (.cells #[v, u] t (0, 0))) : (w.setCell ⟨b, 0, none⟩ x).heap[b]? = some (.cells #[x, u] t (0, 0)) := by
  have hlt := lt_of_block h
  have h' : w.heap[b] = .cells #[v, u] t (0, 0) := by simpa [Array.getElem?_eq_getElem hlt] using h
  show (w.heap.modify b _)[b]? = _
  rw [Array.getElem?_eq_getElem (by simpa using hlt), Array.getElem_modify_self, h']
  rfl
theorem two_set1 {w : World} {b : Nat} {v u x : Value} {t : TypeId} (h : w.heap[b]? = some (.cells #[v, u] t (0, 0))) : (w.setCell ⟨b, 1, none⟩ x).heap[b]? = some (.cells #[v, x] t (0, 0)) := by
  have hlt := lt_of_block h
  have h' : w.heap[b] = .cells #[v, u] t (0, 0) := by simpa [Array.getElem?_eq_getElem hlt] using h
  show (w.heap.modify b _)[b]? = _
  rw [Array.getElem?_eq_getElem (by simpa using hlt), Array.getElem_modify_self, h']
  rfl
/-- A Reader that has read on. -/
theorem rest_on {t : TypeId} {w : World} {p : Nat} {v v1 : Value} {l l1 : List UInt8} {bad : Bool} (hR : IsR t w p v l bad) (h1 : Reads w v1 l1) (hi : Within v v1) (hb : bad = true → l1 = []) : Rest t w p v l1 bad (w.setCell ⟨p, 0, none⟩ v1) := by
  have hne : v1.ownBlock ≠ some p := fun h => hR.apart (hi p h)
  have k : Kept [p] w (w.setCell ⟨p, 0, none⟩ v1) := (Kept.refl [p] w).setCell (.inl (by simp)) _
  exact ⟨v1, ⟨two_set0 hR.box, h1.kept k (fun g hg => by intro hm; simp at hm; subst hm; exact hne hg), hne, hb⟩, k, hi⟩
/-- A Reader that has become bad. -/
theorem rest_bad {t : TypeId} {w : World} {p : Nat} {v : Value} {l : List UInt8} {bad : Bool} (hR : IsR t w p v l bad) : Rest t w p v [] true ((w.setCell ⟨p, 0, none⟩ (.slice none 0 0)).setCell ⟨p, 1, none⟩ (.bool true)) :=
  ⟨.slice none 0 0, ⟨two_set1 (two_set0 hR.box), Reads.nil _, by simp [Value.ownBlock], fun _ => rfl⟩, ((Kept.refl [p] w).setCell (.inl (by simp)) _).setCell (.inl (by simp)) _, fun g hg => by simp [Value.ownBlock] at hg⟩
theorem Rest.trans {t : TypeId} {w w1 w2 : World} {p : Nat} {v v1 : Value} {l2 : List UInt8} {b2 : Bool} (k : Kept [p] w w1) (hn : Within v v1) (h2 : Rest t w1 p v1 l2 b2 w2) : Rest t w p v l2 b2 w2 := by
  obtain ⟨v2, hR, k2, n2⟩ := h2
  exact ⟨v2, hR, k.trans k2 (fun x hx => .inl hx), hn.trans n2⟩
/-- What Reader.Number answers, and leaves. -/
def rnum (l : List UInt8) (bad : Bool) : Nat × List UInt8 × Bool := if (dec l).2 = 0 then (0, [], true) else ((dec l).1, l.drop (dec l).2, bad)
/-- What Reader.Text answers, and leaves. -/
def rtext (l : List UInt8) (bad : Bool) : List UInt8 × List UInt8 × Bool :=
  if (rnum l bad).2.1.length < (rnum l bad).1 then ([], [], true)
  else ((rnum l bad).2.1.take (rnum l bad).1, (rnum l bad).2.1.drop (rnum l bad).1, (rnum l bad).2.2)
theorem rnum_lt (l : List UInt8) (bad : Bool) : (rnum l bad).1 < 18446744073709551616 := by
  unfold rnum; split
  · decide
  · exact dec_bound l
end Go.Proofs.YtngnenbidpojeaaGreatDoor
/-
  Writer.Bytes and bytes.Clone.
-/
namespace Go.Proofs.YtngnenbidpojeaaGreatDoor
set_option maxRecDepth 100000
open Go.RowKit
theorem inf5 : (Tryz.prog.info? 5).map (fun i => (i.zero, i.size, i.bytes)) = some (some (.int .u8 0), 1, 1) := by kernel_rfl
/-- The slice v lies in memory that is new since w. -/
def Fresh (w : World) (v : Value) : Prop := ∀ g, v.ownBlock = some g → w.heap.size ≤ g
set_option maxHeartbeats 400000 in
theorem clone_nil (c : Nat) (w : World) : Calls Tryz.prog 112 #[.slice none 0 c] w fun e w' => e = .returned (.slice none 0 0) ∧ w = w' := by
  have hq := fun w : World => Lib.run_eql_slice_nil (P := Tryz.prog) w 73 5 none 0 c 0 0 Tryz.underlying73
  go_enter Tryz.func112, Tryz.ntmps112
  go_wp2
  go_ret
  exact ⟨rfl, rfl⟩
set_option maxHeartbeats 400000 in
theorem clone_some (a : Addr) (c : Nat) (l : List UInt8) (w : World) (hl : l.length ≤ 140737488355328) (hc : ∀ j u, l[j]? = some u → w.cell? (a.add j) = some (B8 u)) :
    Calls Tryz.prog 112 #[.slice (some a) l.length c] w fun e w' => ∃ v', e = .returned v' ∧ Owns 5 w' v' l ∧ Kept [] w w' ∧ Fresh w v' := by
  obtain ⟨i0, hi, hz0, hz1, hz2⟩ := info_parts inf5
  have hq := fun w : World => Lib.run_eql_slice_nil (P := Tryz.prog) w 73 5 (some a) l.length c 0 0 Tryz.underlying73
  have hcell : Hid (∀ j u, (C8 l)[j]? = some u → (w.alloc (.cells #[] 5)).cell? (a.add j) = some u) := by
    intro j u hu
    simp only [C8, List.getElem?_map, Option.map_eq_some_iff] at hu
    obtain ⟨b, hb, rfl⟩ := hu
    have h1 := hc j b hb
    rw [World.cell?_of_block (w := w) (Below.heap_alloc _ _ _ (World.block_lt_of_cell? w _ h1))]
    exact h1
  have hmade := World.ownsRow_made (base := 0) (e := 5) (size := 1) w #[] 0 (Nat.zero_le _) (by simp) (by simp)
  clear hc
  go_enter Tryz.func112, Tryz.ntmps112
  go_wp2_with (at_builtin; refine wpList_append_own_at _ rfl _ _ _ rfl 0 5 i0 _ 1 1 Tryz.underlying73 hi hz0 hz1 hz2 rfl (by omega) _ 0 [] rfl hmade a l.length c (C8 l) rfl (by rw [C8_length, Nat.mul_one]) hcell.out (C8_one l) (by unfold maxLen; omega) (by omega) (by omega) ?_; intro v1 w1 hown hgrow hnil hat)
  go_ret
  refine ⟨v1, rfl, ?_, ((Kept.refl [] w).alloc _).grown hgrow ?_, ?_⟩
  · rw [Nat.zero_add] at hown; exact hown
  · intro k hk
    have hk' : some w.heap.size = some k := hk
    injection hk' with hk'
    exact .inr (by omega)
  · intro g hg
    rcases hat with h | h
    · have h' : some g = some w.heap.size := hg.symm.trans h
      injection h' with h'
      omega
    · rw [hg] at h; simp at h; omega
/-- bytes.Clone: the same bytes, in new memory. -/
theorem clone_any (v : Value) (l : List UInt8) (w : World) (h : Reads w v l) (hl : l.length ≤ 140737488355328) :
    Calls Tryz.prog 112 #[v] w fun e w' => ∃ v', e = .returned v' ∧ Owns 5 w' v' l ∧ Kept [] w w' ∧ Fresh w v' := by
  obtain ⟨a, cap, rfl, h2, h3, h4, h5⟩ := h
  match a with
  | none =>
    have hc := h4 rfl
    subst hc
    have h0 : l = [] := List.eq_nil_of_length_eq_zero (by omega)
    subst h0
    exact (clone_nil 0 w).mono fun e w' ⟨he, hw⟩ => ⟨_, he, hw ▸ Owns.nil 5 w, hw ▸ Kept.refl [] w, fun g hg => by simp [Value.ownBlock] at hg⟩
  | some a =>
    refine clone_some a cap l w hl fun j u hu => ?_
    have hne : l ≠ [] := fun h => by subst h; simp at hu
    obtain ⟨b, o, hab, hc⟩ := h5 hne
    simp at hab
    subst hab
    have hadd : (⟨b, o, Option.none⟩ : Addr).add j = ⟨b, o + j, Option.none⟩ := by unfold Addr.add; split <;> simp_all
    rw [hadd]
    exact hc j u hu
set_option maxHeartbeats 400000 in
theorem wbytes_any (p : Nat) (v : Value) (l : List UInt8) (w : World) (hW : IsW 205 5 w p v l) (hl : l.length ≤ 140737488355328) :
    Calls Tryz.prog 69 #[.pointer (some ⟨p, 0, none⟩)] w fun e w' => ∃ v', e = .returned v' ∧ Owns 5 w' v' l ∧ Kept [] w w' ∧ Fresh w v' := by
  have hcell := cell_of_one hW.box
  have hr := hW.own.reads
  go_enter Tryz.func69, Tryz.ntmps69
  go_wp2_with (go_at_call 112; refine (clone_any v l _ hr hl).mono ?_; rintro e w1 ⟨v1, rfl, hown, hk, hf⟩)
  go_ret
  exact ⟨v1, rfl, hown, hk, hf⟩
end Go.Proofs.YtngnenbidpojeaaGreatDoor
