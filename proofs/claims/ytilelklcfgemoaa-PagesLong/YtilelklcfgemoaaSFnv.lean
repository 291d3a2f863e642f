/-
  The document's sum and sealed block, over lists of bytes, and what follows of them: a sum tells one byte from another, a sealed block with one byte turned is none. Nothing here speaks of the program.
-/
namespace Go.Proofs.Ytilelklcfgemoaa
def mix (x b : Nat) : Nat := ((x ^^^ b) * 1099511628211) % 18446744073709551616
def fnvFrom (x : Nat) (l : List UInt8) : Nat := l.foldl (fun y b => mix y b.toNat) x
/-- The sum of bytes. -/
def fnv (l : List UInt8) : Nat := fnvFrom 14695981039346656037 l
theorem mix_lt (x b : Nat) : mix x b < 18446744073709551616 := Nat.mod_lt _ (by decide)
theorem fnvFrom_lt (l : List UInt8) : ∀ x, x < 18446744073709551616 → fnvFrom x l < 18446744073709551616 := by
  induction l with
  | nil => intro x h; exact h
  | cons b t ih => intro x _; exact ih _ (mix_lt _ _)
theorem fnv_lt (l : List UInt8) : fnv l < 18446744073709551616 := by
  unfold fnv
  exact fnvFrom_lt l _ (by omega)
theorem fnvFrom_append (x : Nat) (l m : List UInt8) : fnvFrom x (l ++ m) = fnvFrom (fnvFrom x l) m := by simp [fnvFrom]
theorem fnvFrom_cons (x : Nat) (u : UInt8) (l : List UInt8) : fnvFrom x (u :: l) = fnvFrom (mix x u.toNat) l := by unfold fnvFrom; rw [List.foldl_cons]
theorem fnvFrom_one (x : Nat) (u : UInt8) : fnvFrom x [u] = mix x u.toNat := by unfold fnvFrom; rw [List.foldl_cons, List.foldl_nil]
theorem fnvFrom_take (x : Nat) (l : List UInt8) (j : Nat) (u : UInt8) (hu : l[j]? = some u) : fnvFrom x (l.take (j + 1)) = mix (fnvFrom x (l.take j)) u.toNat := by
  rw [List.take_add_one, hu, fnvFrom_append]
  exact fnvFrom_one _ u
theorem fnv_take (l : List UInt8) (j : Nat) (u : UInt8) (hu : l[j]? = some u) : fnv (l.take (j + 1)) = mix (fnv (l.take j)) u.toNat := by
  unfold fnv
  exact fnvFrom_take _ l j u hu
theorem xor_cancel (x y b : Nat) (h : x ^^^ b = y ^^^ b) : x = y := by
  have h2 := congrArg (· ^^^ b) h
  simpa [Nat.xor_assoc] using h2
theorem mul_back (M f g q a : Nat) (hq : f * g = M * q + 1) (ha : a < M) : ((a * f) % M * g) % M = a := by
  rw [Nat.mul_mod, Nat.mod_mod, ← Nat.mul_mod, Nat.mul_assoc, hq, Nat.mul_add, Nat.mul_one, Nat.mul_left_comm, Nat.mul_add_mod, Nat.mod_eq_of_lt ha]
theorem mul_cancel_gen (M f g q a c : Nat) (hq : f * g = M * q + 1) (ha : a < M) (hc : c < M) (h : (a * f) % M = (c * f) % M) : a = c := by
  rw [← mul_back M f g q a hq ha, ← mul_back M f g q c hq hc, h]
theorem mul_cancel (a c : Nat) (ha : a < 18446744073709551616) (hc : c < 18446744073709551616) (h : (a * 1099511628211) % 18446744073709551616 = (c * 1099511628211) % 18446744073709551616) : a = c :=
  mul_cancel_gen 18446744073709551616 1099511628211 14886173955864302971 887285111055 a c (by decide +kernel) ha hc h
theorem xor_lt (x b : Nat) (hx : x < 18446744073709551616) (hb : b < 256) : x ^^^ b < 18446744073709551616 := Nat.xor_lt_two_pow (n := 64) (by omega) (by omega)
theorem mix_inj (x y b : Nat) (hx : x < 18446744073709551616) (hy : y < 18446744073709551616) (hb : b < 256) (h : mix x b = mix y b) : x = y :=
  xor_cancel x y b (mul_cancel _ _ (xor_lt x b hx hb) (xor_lt y b hy hb) h)
theorem mix_inj2 (x b c : Nat) (hx : x < 18446744073709551616) (hb : b < 256) (hc : c < 256) (h : mix x b = mix x c) : b = c := by
  have h2 := mul_cancel _ _ (xor_lt x b hx hb) (xor_lt x c hx hc) h
  rw [Nat.xor_comm x b, Nat.xor_comm x c] at h2
  exact xor_cancel b c x h2
theorem fnvFrom_inj (l : List UInt8) : ∀ x y, x < 18446744073709551616 → y < 18446744073709551616 → fnvFrom x l = fnvFrom y l → x = y := by
  induction l with
  | nil => intro x y _ _ h; exact h
  | cons b t ih =>
    intro x y hx hy h
    rw [fnvFrom_cons, fnvFrom_cons] at h
    exact mix_inj x y b.toNat hx hy b.toNat_lt (ih _ _ (mix_lt _ _) (mix_lt _ _) h)
/-- Of two lists of bytes that differ in one byte the sums differ. -/
theorem fnv_one (a b : List UInt8) (x y : UInt8) (h : fnv (a ++ x :: b) = fnv (a ++ y :: b)) : x = y := by
  unfold fnv at h
  rw [fnvFrom_append, fnvFrom_append, fnvFrom_cons, fnvFrom_cons] at h
  have h2 := fnvFrom_inj b _ _ (mix_lt _ _) (mix_lt _ _) h
  have h3 := mix_inj2 _ _ _ (fnvFrom_lt a _ (by omega)) x.toNat_lt y.toNat_lt h2
  exact UInt8.toNat_inj.1 h3
theorem fnv_set (l : List UInt8) (j : Nat) (u : UInt8) (hj : j < l.length) (h : fnv (l.set j u) = fnv l) : u = l[j] := by
  have e1 : l = l.take j ++ l[j] :: l.drop (j + 1) := by simp
  have e2 : l.set j u = l.take j ++ u :: l.drop (j + 1) := by rw [List.set_eq_take_append_cons_drop]; simp [hj]
  rw [e2] at h
  exact fnv_one _ _ _ _ (h.trans (congrArg fnv e1))
/-- The last k bytes of n, the highest first. -/
def be : Nat → Nat → List UInt8
  | 0, _ => []
  | k + 1, n => be k (n / 256) ++ [UInt8.ofNat n]
theorem be_length (k : Nat) : ∀ n, (be k n).length = k := by
  induction k with
  | zero => intro n; rfl
  | succ k ih => intro n; simp [be, ih]
theorem be_inj (k : Nat) : ∀ n m, n < 256 ^ k → m < 256 ^ k → be k n = be k m → n = m := by
  induction k with
  | zero => intro n m hn hm _; simp at hn hm; omega
  | succ k ih =>
    intro n m hn hm h
    unfold be at h
    have h2 := List.append_inj h (by rw [be_length, be_length])
    have h3 := ih _ _ (by rw [Nat.pow_succ] at hn; omega) (by rw [Nat.pow_succ] at hm; omega) h2.1
    have h4 := congrArg (fun l => l.map UInt8.toNat) h2.2
    simp at h4
    omega
/-- What stands behind a sealed block's sum. -/
def rest (kind : UInt8) (place : Nat) (p : List UInt8) : List UInt8 := kind :: (be 4 place ++ (UInt8.ofNat p.length :: (p ++ List.replicate (242 - p.length) 0)))
/-- The sealed block. -/
def sealedL (kind : UInt8) (place : Nat) (p : List UInt8) : List UInt8 := be 8 (fnv (rest kind place p)) ++ rest kind place p
theorem rest_length (kind : UInt8) (place : Nat) (p : List UInt8) (h : p.length ≤ 242) : (rest kind place p).length = 248 := by simp [rest, be_length]; omega
theorem sealedL_length (kind : UInt8) (place : Nat) (p : List UInt8) (h : p.length ≤ 242) : (sealedL kind place p).length = 256 := by simp [sealedL, be_length, rest_length kind place p h]
theorem sealedL_drop (kind : UInt8) (place : Nat) (p : List UInt8) : (sealedL kind place p).drop 8 = rest kind place p := by
  unfold sealedL; rw [List.drop_append_of_le_length (by rw [be_length]; omega), List.drop_of_length_le (by rw [be_length]; omega)]; rfl
theorem sealedL_take (kind : UInt8) (place : Nat) (p : List UInt8) : (sealedL kind place p).take 8 = be 8 (fnv (rest kind place p)) := by
  unfold sealedL; rw [List.take_append_of_le_length (by rw [be_length]; omega), List.take_of_length_le (by rw [be_length]; omega)]
theorem fnv_a : fnv [97] = 12638187200555641996 := by decide +kernel
end Go.Proofs.Ytilelklcfgemoaa
