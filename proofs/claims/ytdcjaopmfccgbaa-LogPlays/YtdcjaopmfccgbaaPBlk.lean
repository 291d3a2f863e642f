/-
  part.block: a part's sealed block, in new memory.
-/
import Derived.Test.YtdcjaopmfccgbaaSml
namespace Go.Proofs.Ytdcjaopmfccgbaa
open Go.RowKit
set_option linter.unusedVariables false

theorem Hid.mk {P : Prop} (h : P) : Hid P := h
theorem Sealed.kept {w w' : World} {v : Value} {l : List UInt8} (h : Sealed w w' v l) : Kept [] w w' := by
  obtain ⟨_, _, _, _, _, h⟩ := h; exact h
theorem Sealed.mono {w0 w w' : World} {v : Value} {l : List UInt8} (h : Sealed w w' v l) (k : Kept [] w0 w) : Sealed w0 w' v l := by
  obtain ⟨g, h1, h2, h3, h4, h5⟩ := h
  exact ⟨g, h1, Nat.le_trans k.size h2, h3, h4, k.trans h5 (by simp)⟩
/-- A part, boxed. -/
def Boxed (w : World) (b : Nat) (e : Nat) (la : Bool) (v : Value) : Prop := w.heap[b]? = some (.cells #[.int .u64 (e : Int), .bool la, v] 70 (0, 0))
theorem Boxed.kept {S : List Nat} {w w' : World} {b e : Nat} {la : Bool} {v : Value} (h : Boxed w b e la v) (k : Kept S w w') (hn : b ∉ S) : Boxed w' b e la v := k.keeps h hn
theorem Boxed.lt {w : World} {b e : Nat} {la : Bool} {v : Value} (h : Boxed w b e la v) : b < w.heap.size := lt_of_block h
theorem Boxed.cells {w : World} {b e : Nat} {la : Bool} {v : Value} (h : Boxed w b e la v) : w.cell? ⟨b, 0, none⟩ = some (.int .u64 (e : Int)) ∧ w.cell? ⟨b, 1, none⟩ = some (.bool la) ∧ w.cell? ⟨b, 2, none⟩ = some v := by
  unfold Boxed at h
  simp [World.cell?, h]
theorem Boxed.free {w : World} {b e : Nat} {la : Bool} {v : Value} (h : Boxed w b e la v) (j : Nat) : w.frozen? ⟨b, j, none⟩ = false := by
  unfold Boxed at h
  simp [World.frozen?, h]

theorem be_at (k : Nat) : ∀ n i, i < k → (be k n)[i]? = some (UInt8.ofNat (n / 256 ^ (k - 1 - i))) := by
  induction k with
  | zero => intro n i h; omega
  | succ k ih =>
    intro n i h
    unfold be
    by_cases hi : i < k
    · rw [List.getElem?_append_left (by rw [be_length]; exact hi), ih (n / 256) i hi, Nat.div_div_eq_div_mul, show k + 1 - 1 - i = (k - 1 - i) + 1 by omega, Nat.pow_succ, Nat.mul_comm]
    · have : i = k := by omega
      subst this
      rw [List.getElem?_append_right (by rw [be_length]; omega), be_length]
      simp
/-- The head's row, behind i of the eight bytes. -/
def lay9 (ep n i : Nat) : List UInt8 := (be 8 ep).take i ++ zs (9 + n - i)
theorem lay9_length (ep n i : Nat) (h : i ≤ 8) : (lay9 ep n i).length = 9 + n := by
  unfold lay9
  rw [List.length_append, List.length_take, be_length, zs_length]; omega
theorem lay9_set (ep n i : Nat) (h : i < 8) : (lay9 ep n i).set i (UInt8.ofNat (ep / 256 ^ (7 - i))) = lay9 ep n (i + 1) := by
  unfold lay9
  rw [show 9 + n - i = (9 + n - (i + 1)) + 1 by omega, zs_succ, set_at (by rw [List.length_take, be_length]; omega), List.take_add_one, be_at 8 ep i h, List.append_assoc]
  rfl
theorem lay9_done (ep n : Nat) : lay9 ep n 8 = (be 8 ep ++ [0]) ++ zs n := by
  unfold lay9
  rw [List.take_of_length_le (by rw [be_length]; omega), show 9 + n - 8 = n + 1 by omega, zs_succ, List.append_assoc]
  rfl
theorem lay9_last (ep n : Nat) : (lay9 ep n 8).set 8 1 = (be 8 ep ++ [1]) ++ zs n := by
  unfold lay9
  rw [List.take_of_length_le (by rw [be_length]; omega), show 9 + n - 8 = n + 1 by omega, zs_succ, set_at (be_length 8 ep), List.append_assoc]
  rfl
theorem owns_row {w : World} {g : Nat} {l m : List UInt8} (h : Row w g (l ++ m)) (n c : Nat) (hn : l.length = n) (hc : n + m.length = c) (hm : c ≤ maxLen) : Owns 5 w (.slice (some ⟨g, 0, none⟩) n c) l := by
  subst hn hc
  refine ⟨by rw [C8_length, Nat.mul_one], .inr ⟨g, _, _, rfl, Nat.zero_le _, h, by omega, hm, by simp [C8_length], ?_⟩⟩
  rw [Nat.mul_one]
  show (C8 (l ++ m)).take l.length = C8 l
  rw [C8_append, ← C8_length l, List.take_left']
  rfl
theorem make9 (n : Nat) (hn : n ≤ 233) (W : World) : (Instr.makeSlice 35 (.int .i64 9) (.int .i64 (9 + (n : Int)))).run Try.prog W = .ok (.slice (some ⟨W.heap.size, 0, none⟩) 9 (9 + n)) (W.alloc (.cells (C8 (lay9 0 n 0)).toArray 5)) := by
  obtain ⟨i0, hi, hz0, hz1, hz2⟩ := info_parts inf5
  have h := run_make (P := Try.prog) W 35 5 i0 _ Try.underlying35 hi hz0 .i64 .i64 9 (9 + (n : Int)) (by omega) (by omega) (by rw [hz2]; omega) (by omega)
  have e9 : (9 + (n : Int)).toNat = 9 + n := by omega
  rw [h, e9]
  have e : madeCells (Value.int .u8 0).cells ((9 + n) * i0.size) = (C8 (lay9 0 n 0)).toArray := by
    rw [hz1]
    apply Array.toList_inj.1
    rw [show (Value.int .u8 0).cells = #[.int .u8 0] from rfl, toList_madeCells_one]
    have e0 : B8 0 = .int .u8 0 := by simp [B8]
    show _ = List.map B8 (List.replicate (9 + n) 0)
    rw [List.map_replicate, e0, Nat.mul_one]
  rw [e]
  rfl
theorem byte_ep (ep i : Nat) : (ep : Int) / 2 ^ (8 * (7 - i)) % 256 = ((ep / 256 ^ (7 - i) % 256 : Nat) : Int) := by
  rw [show (256 : Nat) ^ (7 - i) = 2 ^ (8 * (7 - i)) by rw [show (256 : Nat) = 2 ^ 8 from rfl, ← Nat.pow_mul]]
  simp

set_option maxRecDepth 100000 in
set_option maxHeartbeats 400000 in
theorem block_any (ep pl : Nat) (la : Bool) (a : Option Addr) (n c : Nat) (l : List UInt8) (w : World) (hp : pl < 4294967296) (hep : ep < 18446744073709551616) (hn : l.length = n) (hl : n ≤ 233) (hr : Reads w (.slice a n c) l) :
    Calls Try.prog 34 #[.agg #[.int .u64 (ep : Int), .bool la, .slice a n c], .int .u32 (pl : Int)] w fun e w' => ∃ v', e = .returned v' ∧ Sealed w w' v' (sealedL 2 pl (bodyP ep la l)) := by
  have k0 := (Kept.refl [] w).alloc (.cells #[.int .u64 (ep : Int), .bool la, .slice a n c] 70)
  have hb : Boxed (w.alloc (.cells #[.int .u64 (ep : Int), .bool la, .slice a n c] 70)) w.heap.size ep la (.slice a n c) := heap_alloc_new w _
  have hmk := make9 n hl
  go_enter Try.func34, Try.ntmps34
  go_wp2_with fail
  generalize hw0 : w.alloc (.cells #[.int .u64 (ep : Int), .bool la, .slice a n c] 70) = w0 at k0 hb
  generalize hbb : w.heap.size = b at hb
  have hR0 : Row (w0.alloc (.cells (C8 (lay9 0 n 0)).toArray 5)) w0.heap.size (lay9 ep n 0) := heap_alloc_new w0 _
  have k1 : Kept [] w0 (w0.alloc (.cells (C8 (lay9 0 n 0)).toArray 5)) := (Kept.refl [] w0).alloc _
  have hb1 := hb.kept k1 (by simp)
  have hblt := hb.lt
  generalize w0.alloc (.cells (C8 (lay9 0 n 0)).toArray 5) = w1 at hR0 k1 hb1
  have hg : w0.heap.size = b + 1 := by rw [← hw0, ← hbb]; simp
  rw [hg] at hR0 hblt
  clear hmk hw0
  have kk1 := k0.trans k1 (by simp)
  clear k1
  go_loopw [14] (fun i wr => ∃ j : Nat, i = .int .i64 (j : Int) ∧ j ≤ 8 ∧ Row wr (b + 1) (lay9 ep n j) ∧ Boxed wr b ep la (.slice a n c) ∧ Kept [] w wr) (fun i _ => (8 - intOf i).toNat)
  case atStart => exact ⟨0, rfl, by omega, hR0, hb1, kk1⟩
  case round =>
    clear hR0 hb1 kk1 hb
    obtain ⟨j, rfl, hj, hR, hb, kk⟩ := hrel
    by_cases h8 : j < 8
    · have hji : (j : Int) < 8 := by omega
      have hL := lay9_length ep n j hj
      obtain ⟨u, hu⟩ : ∃ u, (lay9 ep n j)[j]? = some u := ⟨(lay9 ep n j)[j]'(by omega), by simp⟩
      have hc := hR.cell j u hu
      have hf := hR.free j
      have e1 : Value.int .u8 ((ep : Int) / 2 ^ (8 * (7 - j)) % 256) = B8 (UInt8.ofNat (ep / 256 ^ (7 - j))) := B8_of (ep / 256 ^ (7 - j)) _ (byte_ep ep j)
      have hR2 := hR.set j (UInt8.ofNat (ep / 256 ^ (7 - j)))
      have kk2 := (Kept.refl [b + 1] wr).setCell (.inl (by simp)) (p := ⟨b + 1, j, none⟩) (B8 (UInt8.ofNat (ep / 256 ^ (7 - j))))
      rw [lay9_set ep n j h8, ← e1] at hR2
      rw [← e1] at kk2
      have hb2 := Hid.mk (hb.kept kk2 (by simp))
      have kk3 := Hid.mk (kk.trans kk2 (fun x hx => .inr (by simp at hx; omega)))
      have hR3 := Hid.mk hR2
      obtain ⟨c0, c1, c2⟩ := hb.cells
      clear hb kk kk2 hR2 hR hu hL c1 c2 e1
      go_wp2
      go_roundw
      case rel => exact ⟨j + 1, by go_num, by omega, hR3.out, hb2.out, kk3.out⟩
      case measure => simp [intOf]; omega
    · have hj8 : j = 8 := by omega
      subst hj8
      rw [show ((8 : Nat) : Int) = 8 from rfl]
      have hr' := Hid.mk hr
      clear hr
      obtain ⟨c0, c1, c2⟩ := hb.cells
      have hL := lay9_length ep n 8 hj
      obtain ⟨u, hu⟩ : ∃ u, (lay9 ep n 8)[8]? = some u := ⟨(lay9 ep n 8)[8]'(by omega), by simp⟩
      have hc := hR.cell 8 u hu
      have hf := hR.free 8
      have hR2 := hR.set 8 1
      rw [lay9_last] at hR2
      have kk2 := (Kept.refl [b + 1] wr).setCell (.inl (by simp)) (p := ⟨b + 1, 8, none⟩) (B8 1)
      have hb2 := hb.kept kk2 (by simp)
      have kk3 := kk.trans kk2 (fun x hx => .inr (by simp at hx; omega))
      have e1 : B8 1 = Value.int .u8 1 := rfl
      rw [e1] at hR2 kk2 hb2 kk3
      rw [lay9_done] at hR
      have hx := Hid.mk hR2
      clear hR2 kk2
      cases la with
      | true =>
        clear hR kk hb hL hu
        obtain ⟨d0, d1, d2⟩ := hb2.cells
        have hx' := hx.out
        have hO := owns_row hx' 9 (9 + n) (by rw [List.length_append, be_length]; rfl) (by rw [zs_length]) (by unfold maxLen; omega)
        have hf9 : Fresh w (.slice (some ⟨b + 1, 0, none⟩) 9 (9 + n)) := fun g hg => by simp [Value.ownBlock] at hg; omega
        have hrW := hr'.out.kept kk3 (by simp)
        have hbd : Hid (9 + l.length ≤ 140737488355328) := by show _ ≤ _; omega
        have hn' := Hid.mk hn
        clear hn
        go_wp2_with (at_builtin; refine wpList_append_reads rfl _ _ rfl w _ _ rfl hO hf9 kk3 _ _ rfl hrW (by have := hbd.out; rw [List.length_append, be_length]; exact this) ?_; intro ad n1 c1 w2 hn1 hO1 hF1 hK1 hE1)
        clear hE1 hF1
        have hbl := bodyP_length ep true l
        have eb : be 8 ep ++ [1] ++ l = bodyP ep true l := by unfold bodyP; rw [List.append_assoc]; rfl
        rw [eb] at hO1
        have hse : Calls Try.prog 40 #[.int .u8 2, .int .u32 (pl : Int), .slice ad n1 c1] w2 fun e w' => ∃ v', e = .returned (.tuple #[v', .int .i64 0]) ∧ Sealed w2 w' v' (sealedL 2 pl (bodyP ep true l)) := seal_any 2 pl _ _ w2 hp (by rw [hbl]; have := hn'.out; omega) hO1.reads
        clear hO1 hO hrW hf9 eb hbl
        go_wp2_with fail
        refine hse.mono ?_
        rintro e w3 ⟨v3, rfl, hS⟩
        have hfin := hS.mono hK1
        clear hse hS hK1
        go_wp2_with fail
        go_ret
        exact ⟨_, rfl, hfin⟩
      | false =>
        clear kk3 hb2 hL hu hx hc hf
        have hO := owns_row hR 9 (9 + n) (by rw [List.length_append, be_length]; rfl) (by rw [zs_length]) (by unfold maxLen; omega)
        have hf9 : Fresh w (.slice (some ⟨b + 1, 0, none⟩) 9 (9 + n)) := fun g hg => by simp [Value.ownBlock] at hg; omega
        have hrW := hr'.out.kept kk (by simp)
        have hbd : Hid (9 + l.length ≤ 140737488355328) := by show _ ≤ _; omega
        have hn' := Hid.mk hn
        clear hn
        go_wp2_with (at_builtin; refine wpList_append_reads rfl _ _ rfl w _ _ rfl hO hf9 kk _ _ rfl hrW (by have := hbd.out; rw [List.length_append, be_length]; exact this) ?_; intro ad n1 c1 w2 hn1 hO1 hF1 hK1 hE1)
        clear hE1 hF1
        have hbl := bodyP_length ep false l
        have eb : be 8 ep ++ [0] ++ l = bodyP ep false l := by unfold bodyP; rw [List.append_assoc]; rfl
        rw [eb] at hO1
        have hse : Calls Try.prog 40 #[.int .u8 2, .int .u32 (pl : Int), .slice ad n1 c1] w2 fun e w' => ∃ v', e = .returned (.tuple #[v', .int .i64 0]) ∧ Sealed w2 w' v' (sealedL 2 pl (bodyP ep false l)) := seal_any 2 pl _ _ w2 hp (by rw [hbl]; have := hn'.out; omega) hO1.reads
        clear hO1 hO hrW hf9 eb hbl
        go_wp2_with fail
        refine hse.mono ?_
        rintro e w3 ⟨v3, rfl, hS⟩
        have hfin := hS.mono hK1
        clear hse hS hK1
        go_wp2_with fail
        go_ret
        exact ⟨_, rfl, hfin⟩
end Go.Proofs.Ytdcjaopmfccgbaa
