/-
  SumJoins: the walk.
-/
import Derived.Test.YtapbeemgkbimcaaAwake
namespace Go.Proofs.Ytapbeemgkbimcaa
open Go.RowKit
set_option linter.unusedVariables false

theorem join_eq (A B : List UInt8) (x y : UInt8) : ((((fnv (A ++ x :: B) : Nat) : Int) == ((fnv (A ++ y :: B) : Nat) : Int)) == ((x.toNat : Int) == (y.toNat : Int))) = true := by
  by_cases h : x = y
  · subst h; simp
  · have h1 : fnv (A ++ x :: B) ≠ fnv (A ++ y :: B) := fun e => h (fnv_one A B x y e)
    have h2 : x.toNat ≠ y.toNat := fun e => h (UInt8.toNat_inj.1 e)
    have e1 : (((fnv (A ++ x :: B) : Nat) : Int) == ((fnv (A ++ y :: B) : Nat) : Int)) = false := by simpa using fun e => h1 (by omega)
    have e2 : ((x.toNat : Int) == (y.toNat : Int)) = false := by simpa using fun e => h2 (by omega)
    rw [e1, e2]
    rfl

theorem reads_byte (w : World) (u : UInt8) : Reads (w.alloc (.cells #[.int .u8 (u.toNat : Int)] 5)) (.slice (some ⟨w.heap.size, 0, none⟩) 1 1) [u] :=
  (own_new w [u] _ rfl 1 rfl (by unfold maxLen; omega)).reads

theorem join_list (A B : List UInt8) (x : UInt8) : (([] ++ A) ++ [x]) ++ B = A ++ x :: B := by simp

set_option maxRecDepth 100000 in
set_option maxHeartbeats 2000000 in
theorem joins_any (x y : UInt8) (v u : Value) (A B : List UInt8) (w : World) (hA : Reads w v A) (hB : Reads w u B) (hb : Hid (A.length + 1 + B.length ≤ 140737488355328)) :
    Calls Try.prog 7 #[v, u, .int .u8 (x.toNat : Int), .int .u8 (y.toNat : Int)] w fun e w' => e = .returned (.bool true) ∧ Kept [] w w' := by
  have hJ := join_eq A B x y
  have hb1 : Hid ((([] : List UInt8)).length + A.length ≤ 140737488355328) := by show _ ≤ _; have := hb.out; rw [List.length_nil]; omega
  have hb2 : ∀ z : UInt8, Hid ((([] : List UInt8) ++ A).length + [z].length ≤ 140737488355328) := fun z => by show _ ≤ _; have := hb.out; rw [List.nil_append]; show _ + 1 ≤ _; omega
  have hb3 : ∀ z : UInt8, Hid (((([] : List UInt8) ++ A) ++ [z]).length + B.length ≤ 140737488355328) := fun z => by show _ ≤ _; have := hb.out; rw [List.nil_append, List.length_append]; show _ + 1 + _ ≤ _; omega
  have hm0 : Hid (0 ≤ maxLen) := Nat.zero_le _
  clear hb
  go_enter Try.func7, Try.ntmps7
  go_wp2_with fail
  refine (awake_any w).mono ?_
  rintro e w1 ⟨rfl, hk1⟩
  have hA1 := hA.kept hk1 (by simp)
  have hB1 := hB.kept hk1 (by simp)
  clear hA hB
  go_wp2_with (at_builtin; first
    | (refine wpList_append_reads rfl _ _ rfl w1 _ _ rfl (own_new w1 [] #[] rfl 0 rfl hm0.out) (fresh_new w1 0 0) ((Kept.refl [] w1).alloc _) v A rfl (hA1.kept ((Kept.refl [] w1).alloc _) (by simp)) hb1.out ?_
       intro ad2 n2 cap2 w2 hn2 hO2 hF2 hK2 hE2)
    | (refine wpList_append_reads rfl _ _ rfl w1 _ _ rfl (hO2.kept ((Kept.refl [] w2).alloc _) (by simp)) hF2 (hK2.alloc _) _ _ rfl (reads_byte w2 x) (hb2 x).out ?_
       intro ad3 n3 cap3 w3 hn3 hO3 hF3 hK3 hE3)
    | (refine wpList_append_reads rfl _ _ rfl w1 _ _ rfl hO3 hF3 hK3 u B rfl (hB1.kept hK3 (by simp)) (hb3 x).out ?_
       intro ad4 n4 cap4 w4 hn4 hO4 hF4 hK4 hE4)
    | (refine wpList_append_reads rfl _ _ rfl w4 _ _ rfl (own_new w4 [] #[] rfl 0 rfl hm0.out) (fresh_new w4 0 0) ((Kept.refl [] w4).alloc _) v A rfl ((hA1.kept hK4 (by simp)).kept ((Kept.refl [] w4).alloc _) (by simp)) hb1.out ?_
       intro ad5 n5 cap5 w5 hn5 hO5 hF5 hK5 hE5)
    | (refine wpList_append_reads rfl _ _ rfl w4 _ _ rfl (hO5.kept ((Kept.refl [] w5).alloc _) (by simp)) hF5 (hK5.alloc _) _ _ rfl (reads_byte w5 y) (hb2 y).out ?_
       intro ad6 n6 cap6 w6 hn6 hO6 hF6 hK6 hE6)
    | (refine wpList_append_reads rfl _ _ rfl w4 _ _ rfl hO6 hF6 hK6 u B rfl ((hB1.kept hK4 (by simp)).kept hK6 (by simp)) (hb3 y).out ?_
       intro ad7 n7 cap7 w7 hn7 hO7 hF7 hK7 hE7))
  rw [join_list] at hO4 hO7
  have hs4 := sum_any _ _ w7 (hO4.reads.kept hK7 (by simp))
  have hs7 := sum_any _ _ w7 hO7.reads
  have hk7 := (hk1.trans hK4 (by simp)).trans hK7 (by simp)
  clear hO2 hF2 hK2 hE2 hO3 hF3 hK3 hE3 hO4 hF4 hK4 hE4 hO5 hF5 hK5 hE5 hO6 hF6 hK6 hE6 hO7 hF7 hK7 hE7 hA1 hB1 hk1 hb1 hb2 hb3
  generalize fnv (A ++ x :: B) = S at hs4 hJ
  generalize fnv (A ++ y :: B) = T at hs7 hJ
  refine hs4.mono ?_
  rintro e w8 ⟨rfl, rfl⟩
  go_wp2_with fail
  refine hs7.mono ?_
  rintro e w8 ⟨rfl, rfl⟩
  go_wp2_with fail
  go_ret
  exact ⟨rfl, hk7⟩

theorem joins_walk (x y : Nat) (v u : Value) (A B : List UInt8) (w : World) (hx : x ≤ 255) (hy : y ≤ 255) (hA : Reads w v A) (hB : Reads w u B) (hb : A.length + 1 + B.length ≤ 140737488355328) :
    Calls Try.prog 7 #[v, u, .int .u8 (x : Int), .int .u8 (y : Int)] w fun e w' => e = .returned (.bool true) ∧ Kept [] w w' := by
  have e1 : (x : Int) = ((UInt8.ofNat x).toNat : Int) := by simp; omega
  have e2 : (y : Int) = ((UInt8.ofNat y).toNat : Int) := by simp; omega
  rw [e1, e2]
  exact joins_any _ _ v u A B w hA hB hb

end Go.Proofs.Ytapbeemgkbimcaa
