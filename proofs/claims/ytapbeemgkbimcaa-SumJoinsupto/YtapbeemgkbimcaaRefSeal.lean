/-
  The document's own Seal, as the statements have it.
-/
import Derived.Test.YtapbeemgkbimcaaApp
namespace Go.Proofs.Ytapbeemgkbimcaa
open Go.RowKit
set_option linter.unusedVariables false

set_option maxRecDepth 100000 in
set_option maxHeartbeats 400000 in
theorem refseal_long (x y : Int) (a : Option Addr) (n cap : Nat) (w : World) (hn : 242 < n) : Calls Try.prog 12 #[.int .u8 x, .int .u32 y, .slice a n cap] w fun e w' => e = .returned (.tuple #[.slice none 0 0, .int .i64 4]) ∧ w = w' := by
  go_enter Try.func12, Try.ntmps12
  go_wp2
  go_ret2
  exact ⟨rfl, rfl⟩

/-- How long a slice is. -/
def slen : Value → Nat
  | .slice _ n _ => n
  | _ => 0

def head6 (kind : UInt8) (place n : Nat) : List UInt8 := [kind, UInt8.ofNat (place / 16777216), UInt8.ofNat (place / 65536), UInt8.ofNat (place / 256), UInt8.ofNat place, UInt8.ofNat n]
theorem head6_cells (kind : UInt8) (place n : Nat) (hp : place < 4294967296) (hn : n ≤ 242) : #[Value.int .u8 (kind.toNat : Int), .int .u8 ((place : Int) / 16777216), .int .u8 ((place : Int) / 65536 % 256), .int .u8 ((place : Int) / 256 % 256), .int .u8 ((place : Int) % 256), .int .u8 (n : Int)] = (C8 (head6 kind place n)).toArray := by
  rw [B8_of (place / 16777216) ((place : Int) / 16777216) (by omega), B8_of (place / 65536) ((place : Int) / 65536 % 256) (by omega), B8_of (place / 256) ((place : Int) / 256 % 256) (by omega), B8_of place ((place : Int) % 256) (by omega), B8_of n (n : Int) (by omega)]
  rfl
theorem head6_rest (kind : UInt8) (place : Nat) (p : List UInt8) (hl : p.length ≤ 242) : (head6 kind place p.length ++ p) ++ zs (248 - (head6 kind place p.length ++ p).length) = rest kind place p := by
  have e : 248 - (head6 kind place p.length ++ p).length = 242 - p.length := by rw [List.length_append]; show 248 - (6 + p.length) = _; omega
  rw [e]
  unfold head6 rest zs
  simp [be, Nat.div_div_eq_div_mul]

theorem zs_one (n : Nat) (h : 0 < n) : [0] ++ zs (n - 1) = zs n := by
  obtain ⟨m, rfl⟩ : ∃ m, n = m + 1 := ⟨n - 1, by omega⟩
  rfl

theorem be_get (k : Nat) : ∀ n j, j < k → (be k n)[j]? = some (UInt8.ofNat (n / 256 ^ (k - 1 - j))) := by
  induction k with
  | zero => intro n j h; omega
  | succ k ih =>
    intro n j h
    unfold be
    by_cases hj : j < k
    · rw [List.getElem?_append_left (by rw [be_length]; exact hj), ih _ j hj]
      congr 2
      rw [Nat.div_div_eq_div_mul, show k + 1 - 1 - j = k - 1 - j + 1 by omega, Nat.pow_succ, Nat.mul_comm]
    · have : j = k := by omega
      subst this
      rw [List.getElem?_append_right (by rw [be_length]; exact Nat.le_refl _), be_length]
      simp
theorem be_take (n j : Nat) (h : j < 8) : (be 8 n).take (j + 1) = (be 8 n).take j ++ [UInt8.ofNat (n / 256 ^ (7 - j))] := by
  rw [List.take_add_one, be_get 8 n j h]
  rfl

theorem byte_at (S j : Nat) (h : j < 8) : (S : Int) / 2 ^ (56 - 8 * j) % 256 = ((S / 256 ^ (7 - j) % 256 : Nat) : Int) := by
  have e3 : (256 : Nat) ^ (7 - j) = 2 ^ (56 - 8 * j) := by rw [show (256 : Nat) = 2 ^ 8 from rfl, ← Nat.pow_mul]; congr 1; omega
  have e5 : ((S : Int) / 2 ^ (56 - 8 * j)) = ((S / 2 ^ (56 - 8 * j) : Nat) : Int) := by simp
  rw [e5, e3]
  omega

theorem reads_one (w : World) (z : Int) (n : Nat) (hz : z = ((n % 256 : Nat) : Int)) : Reads (w.alloc (.cells #[.int .u8 z] 5)) (.slice (some ⟨w.heap.size, 0, none⟩) 1 1) [UInt8.ofNat n] :=
  (own_new w [UInt8.ofNat n] _ (by rw [B8_of n z hz]; rfl) 1 rfl (by unfold maxLen; omega)).reads

set_option maxRecDepth 100000 in
set_option maxHeartbeats 1000000 in
theorem refseal_walk (kind : UInt8) (place : Nat) (a : Option Addr) (n cap : Nat) (p : List UInt8) (w : World) (hp : place < 4294967296) (hl : n ≤ 242) (hcap : n ≤ cap) (hn : Hid (p.length = n)) (hr : Reads w (.slice a n cap) p) :
    Calls Try.prog 12 #[.int .u8 (kind.toNat : Int), .int .u32 (place : Int), .slice a n cap] w fun e w' => ∃ v', e = .returned (.tuple #[v', .int .i64 0]) ∧ Reads w' v' (sealedL kind place p) ∧ Kept [] w w' := by
  have hC := head6_cells kind place n hp hl
  have HR : Hid ((head6 kind place n ++ p) ++ zs (248 - (head6 kind place n ++ p).length) = rest kind place p) := by
    show _ = _
    rw [← hn.out]; exact head6_rest kind place p (by rw [hn.out]; exact hl)
  have HS : Hid (be 8 (fnv (rest kind place p)) ++ rest kind place p = sealedL kind place p) := rfl
  have hK0 := fun o => (Kept.refl [] w).alloc o
  have hO0 := own_new w (head6 kind place n) _ hC 6 rfl (by unfold maxLen; omega)
  have hr0 := fun o => hr.kept (hK0 o) (by simp)
  clear hC hr
  have hl6 : Hid (p.length + 6 ≤ 248) := by show _ ≤ _; rw [hn.out]; omega
  have hlen6 : Hid ((head6 kind place n ++ p).length = n + 6) := by show _ = _; rw [List.length_append, hn.out]; show 6 + n = _; omega
  go_enter Try.func12, Try.ntmps12
  go_wp2_with (at_builtin; refine wpList_append_reads rfl _ _ rfl w _ _ rfl hO0 (fresh_new w 6 6) (hK0 _) (.slice a n cap) p rfl (hr0 _) (by have := hl6.out; show 6 + _ ≤ _; omega) ?_; intro ad n1 cap1 w1 hn1 hO1 hF1 hK1 hE1)
  clear hO0 hr0 hE1
  have HN1 : Hid (n1 = n + 6) := by show _ = _; rw [hn1.out, hn.out]; show 6 + n = _; omega
  have hn248 : n1 ≤ 248 := by rw [HN1.out]; omega
  clear hn1 hK0
  generalize head6 kind place n ++ p = l1 at HR hO1 hlen6
  have hl1 : Hid (l1.length = n1) := by show _ = _; rw [hlen6.out, HN1.out]
  clear HN1 hlen6 hl6
  generalize rest kind place p = R at HR HS
  go_loopw [8] (fun v wr => ∃ (l' : List UInt8) (ad : Option Addr) (m c : Nat), v = .slice ad m c ∧ m ≤ 248 ∧ l'.length = m ∧ Owns 5 wr v l' ∧ Fresh w v ∧ Kept [] w wr ∧ l' ++ zs (248 - m) = R) (fun v _ => 248 - slen v)
  case atStart => exact ⟨l1, ad, n1, cap1, rfl, hn248, hl1.out, hO1, hF1, hK1, by rw [← hl1.out]; exact HR.out⟩
  case round =>
    obtain ⟨l', ad', m, c, rfl, hm, hlm, hO, hF, hK, hR⟩ := hrel
    clear hO1 hF1 hK1 hl1 HR hn248
    have HLM : Hid (l'.length = m) := hlm
    have HR : Hid (l' ++ zs (248 - m) = R) := hR
    clear hlm hR
    by_cases hlt : m < 248
    · have hO' := hO.kept ((Kept.refl [] wr).alloc (.cells #[.int .u8 0] 5)) (by simp)
      have hK' := hK.alloc (.cells #[.int .u8 0] 5)
      have hr1 := reads_one wr 0 0 rfl
      clear hO hK
      go_wp2_with (at_builtin; refine wpList_append_reads rfl _ _ rfl w _ _ rfl hO' hF hK' _ _ rfl hr1 (by rw [HLM.out]; show m + 1 ≤ _; omega) ?_; intro ad2 n2 cap2 w2 hn2 hO2 hF2 hK2 hE2)
      go_roundw
      case rel => 
        have e2 : n2 = m + 1 := by rw [hn2.out, HLM.out]; rfl
        refine ⟨_, ad2, n2, cap2, rfl, by omega, ?_, hO2, hF2, hK2, ?_⟩
        · rw [List.length_append, HLM.out, e2]; rfl
        · rw [← HR.out, e2, List.append_assoc, show 248 - (m + 1) = 248 - m - 1 by omega]
          exact congrArg (l' ++ ·) (zs_one (248 - m) (by omega))
      case measure => 
        have e2 : n2 = m + 1 := by rw [hn2.out, HLM.out]; rfl
        show 248 - n2 < 248 - m
        omega
    · have hm8 : m = 248 := by omega
      subst hm8
      have hR' := HR.out
      rw [show 248 - 248 = 0 from rfl, show zs 0 = [] from rfl, List.append_nil] at hR'
      subst hR'
      clear hlt HR
      have hrd := hO.reads
      have hsum := refsum_any _ _ _ hrd
      have hS := fnv_lt l'
      go_wp2_with fail
      refine hsum.mono ?_
      rintro e w2 ⟨rfl, hw2⟩
      have hw3 := hw2.symm
      subst hw3
      clear hw2
      generalize fnv l' = S at HS hS hsum
      have HS2 : Hid (be 8 S ++ l' = sealedL kind place p) := HS
      clear hsum HS hO hF hm
      go_wp2_with fail
      go_loopw [10, 42] (fun o i wr2 => ∃ (j : Nat) (ad : Option Addr) (m c : Nat), j ≤ 8 ∧ i = .int .i64 (j : Int) ∧ o = .slice ad m c ∧ Owns 5 wr2 o ((be 8 S).take j) ∧ Fresh w2 o ∧ Kept [] w2 wr2) (fun _ i _ => 8 - (intOf i).toNat)
      case atStart => exact ⟨0, none, 0, 0, by omega, rfl, rfl, Owns.nil 5 _, fun g hg => by simp [Value.ownBlock] at hg, Kept.refl _ _⟩
      case round =>
        obtain ⟨j, ad3, m3, c3, hj, rfl, rfl, hO3, hF3, hK3⟩ := hrel
        by_cases hj8 : j < 8
        · have HB : Hid ((be 8 S).take (j + 1) = (be 8 S).take j ++ [UInt8.ofNat (S / 256 ^ (7 - j))]) := be_take S j hj8
          have hi8 : (j : Int) < 8 := by omega
          have hO' := hO3.kept ((Kept.refl [] wr).alloc (.cells #[.int .u8 ((S : Int) / 2 ^ (56 - 8 * j) % 256)] 5)) (by simp)
          have hK' := hK3.alloc (.cells #[.int .u8 ((S : Int) / 2 ^ (56 - 8 * j) % 256)] 5)
          have hr1 := reads_one wr _ (S / 256 ^ (7 - j)) (byte_at S j hj8)
          have hlb : Hid (((be 8 S).take j).length ≤ 8) := by show _ ≤ _; rw [List.length_take, be_length]; omega
          clear hO3 hK3 hrd
          go_wp2_with (at_builtin; refine wpList_append_reads rfl _ _ rfl w2 _ _ rfl hO' hF3 hK' _ _ rfl hr1 (by have := hlb.out; show _ + 1 ≤ _; omega) ?_; intro ad4 n4 cap4 w4 hn4 hO4 hF4 hK4 hE4)
          go_roundw
          case rel => exact ⟨j + 1, ad4, n4, cap4, by omega, by go_num, rfl, by rw [HB.out]; exact hO4, hF4, hK4⟩
          case measure => simp [intOf]; omega
        · have hj8' : j = 8 := by omega
          subst hj8'
          rw [List.take_of_length_le (by rw [be_length]; exact Nat.le_refl _)] at hO3
          have hr3 := hrd.kept hK3 (by simp)
          have hlb : Hid ((be 8 S).length + l'.length = 256) := by show _ = _; rw [be_length, HLM.out]
          clear hj8 hrd
          go_wp2_with (at_builtin; refine wpList_append_reads rfl _ _ rfl w2 _ _ rfl hO3 hF3 hK3 _ _ rfl hr3 (by rw [hlb.out]; omega) ?_; intro ad4 n4 cap4 w4 hn4 hO4 hF4 hK4 hE4)
          go_ret2
          exact ⟨_, rfl, by rw [← HS2.out]; exact hO4.reads, hK.trans hK4 (by simp)⟩

end Go.Proofs.Ytapbeemgkbimcaa
