/-
  Slices of bytes that are cut, held against each other, cloned; a row of the statement's as bytes.
-/
import Derived.Test.YtilelklcfgemoaaSSealed
import Derived.Lib.SliceRun
import Derived.Laws.IdiomStrings
import Derived.ProofKit
import Derived.OpenShut
namespace Go.Proofs.Ytilelklcfgemoaa
open Go.RowKit
set_option linter.unusedVariables false
theorem reads_of_row (W : World) (x : Addr) (zs : List Int) {len cap : Nat} (hl : len ≤ cap) (hm : cap ≤ maxLen) (hz : zs.length = cap) (hcell : ∀ i, i < zs.length → W.cell? (x.add i) = some (.int .u8 (zs.getD i 0))) (hwz : ∀ n ∈ zs, (Lit.int .u8 n).wf = true) (hb : len ≤ 140737488351232) :
    ∃ l, Reads W (.slice (some x) len cap) l ∧ l.length ≤ 140737488351232 := by
  have hlen : ((zs.take len).map fun z => UInt8.ofNat z.toNat).length = len := by rw [List.length_map, List.length_take]; omega
  refine ⟨(zs.take len).map fun z => UInt8.ofNat z.toNat, ⟨some x, cap, by rw [hlen], by omega, hm, by simp, fun hne => ?_⟩, by omega⟩
  have hpos : 0 < len := by
    rcases Nat.eq_zero_or_pos len with h | h
    · subst h; simp at hne
    · exact h
  obtain ⟨b, o, spot⟩ := x
  have hc := hcell 0 (by omega)
  have hspot : spot = none := by simpa [Addr.add] using World.cell?_spot hc
  subst hspot
  refine ⟨b, o, rfl, fun j u hu => ?_⟩
  rw [List.getElem?_map, Option.map_eq_some_iff] at hu
  obtain ⟨z, hz1, rfl⟩ := hu
  have hj : j < len := by
    have := (List.getElem?_eq_some_iff.1 hz1).1
    rw [List.length_take] at this; omega
  rw [List.getElem?_take_of_lt hj] at hz1
  have h := hcell j (by omega)
  have hadd : (⟨b, o, Option.none⟩ : Addr).add j = ⟨b, o + j, Option.none⟩ := by unfold Addr.add; split <;> simp_all
  rw [hadd] at h
  rw [h]
  have hzz : zs.getD j 0 = z := by simp [List.getD, hz1]
  rw [hzz]
  have hw := bounds_u8 (hwz z (List.mem_of_getElem? hz1))
  congr 1
  exact (B8_of z.toNat z (by omega))
/-- 'v[l:l+k]', of a row that lies somewhere. -/
theorem slice_mid (b o len cap l k : Nat) (h1 : l + k ≤ cap) (h2 : l < cap) (W : World) :
    (Instr.slice 31 (.slice (some ⟨b, o, none⟩) len cap) (some (.int .i64 (l : Int))) (some (.int .i64 ((l : Int) + (k : Int)))) none).run Try.prog W = .ok (.slice (some ⟨b, o + l, none⟩) k (cap - l)) W := by
  obtain ⟨i0, hi, hz0, hz1, hz2⟩ := info_parts inf5
  have ht' : Try.prog.underlying 31 = some (.slice (Try.prog.elem 31)) := by simp [Program.elem, Try.underlying31]
  have he : Try.prog.elem 31 = 5 := by simp [Program.elem, Try.underlying31]
  have hz : ∀ w, (Go.sizeOf 5).run Try.prog w = .ok 1 w := fun w => by simp [Go.sizeOf, typeInfo, hi, hz1]
  rw [run_slice_lh W 31 _ _ _ ht' .i64 .i64 _ _ (by omega) (by omega) (by omega), he, hz]
  have e1 : ((l : Int) + (k : Int)).toNat = l + k := by omega
  have e2 : ¬ cap = l := by omega
  have e3 : (⟨b, o, none⟩ : Addr).add l = ⟨b, o + l, none⟩ := by unfold Addr.add; split <;> simp_all
  simp [Result.andThen, sliced, e1, e2, e3]
theorem str_ne (l m : List UInt8) (h : l ≠ m) : ((⟨l.toArray⟩ : ByteArray).toList == (⟨m.toArray⟩ : ByteArray).toList) = false := by
  rw [ByteArray.toList_mk, ByteArray.toList_mk]; simpa using h
set_option maxHeartbeats 400000 in
theorem equal_yes (v1 v2 : Value) (l : List UInt8) (w : World) (h1 : Reads w v1 l) (h2 : Reads w v2 l) :
    Calls Try.prog 74 #[v1, v2] w fun e w' => e = .returned (.bool true) ∧ w = w' := by
  have s1 := string_of (P := Try.prog) 31 5 Try.underlying31 9 Try.underlying5 Try.underlying9 v1 l w h1
  have s2 := string_of (P := Try.prog) 31 5 Try.underlying31 9 Try.underlying5 Try.underlying9 v2 l w h2
  generalize (⟨l.toArray⟩ : ByteArray) = s at s1 s2
  go_enter Try.func74, Try.ntmps74
  go_wp2
  go_ret
  exact ⟨rfl, rfl⟩
set_option maxHeartbeats 400000 in
theorem equal_no (v1 v2 : Value) (l1 l2 : List UInt8) (w : World) (h1 : Reads w v1 l1) (h2 : Reads w v2 l2) (hne : l1 ≠ l2) :
    Calls Try.prog 74 #[v1, v2] w fun e w' => e = .returned (.bool false) ∧ w = w' := by
  have s1 := string_of (P := Try.prog) 31 5 Try.underlying31 9 Try.underlying5 Try.underlying9 v1 l1 w h1
  have s2 := string_of (P := Try.prog) 31 5 Try.underlying31 9 Try.underlying5 Try.underlying9 v2 l2 w h2
  have hb := str_ne l1 l2 hne
  generalize (⟨l1.toArray⟩ : ByteArray) = t1 at s1 hb
  generalize (⟨l2.toArray⟩ : ByteArray) = t2 at s2 hb
  go_enter Try.func74, Try.ntmps74
  go_wp2
  go_ret
  exact ⟨rfl, rfl⟩
end Go.Proofs.Ytilelklcfgemoaa
